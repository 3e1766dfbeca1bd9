/- A drawn region whose operations only add to memory, but for one that writes: ONE walk in the order of the text serves every order. -/
import Derived.Deep.QuietTactic
import Derived.Lib.Hide
import Derived.Below
import Derived.Laws.AppendOwn
namespace Go.Proofs.YthefknoicelhaaaGreatDoor
open Go.RowKit

/-- an operation yields the value v in every world; it yields some value of which F holds; it yields some value of which F holds and, from then on, T; it writes, and T holds behind it. The Bool of the third: it is a new block's address. The number: 0: it comes up ahead of what writes; 1: ahead of it or behind it; 2: whenever -/
inductive AK where
  | con (l : Nat) (v : Value)
  | fre (l : Nat) (F : (Nat → Value) → Prop)
  | opq (n : Bool) (l : Nat) (F : (Nat → Value) → Prop) (T : (Nat → Value) → World → Prop)
  | wrt (l : Nat) (T : (Nat → Value) → World → Prop)
def AK.lv : AK → Nat
  | .con l _ => l
  | .fre l _ => l
  | .opq _ l _ _ => l
  | .wrt l _ => l
def AK.val : AK → Value → Value
  | .con _ v, _ => v
  | .fre _ _, x => x
  | .opq _ _ _ _, x => x
  | .wrt _ _, x => x
def AK.noT : AK → Bool
  | .con _ _ => true
  | .fre _ _ => true
  | _ => false
def AK.isWrt : AK → Bool
  | .wrt _ _ => true
  | _ => false
def AK.isNew : AK → Bool
  | .opq n _ _ _ => n
  | _ => false
def AK.free : AK → (Nat → Value) → Prop
  | .con _ _, _ => True
  | .fre _ F, x => F x
  | .opq _ _ F _, x => F x
  | .wrt _ _, _ => True
def AK.fact : AK → (Nat → Value) → World → Prop
  | .con _ _, _, _ => True
  | .fre _ _, _, _ => True
  | .opq _ _ _ T, x, w => T x w
  | .wrt _ T, x, w => T x w
/-- what an operation has come to -/
def addUpon (P : Program) (R : Value → World → Prop) : Result Next → Prop
  | .ok (.value u) w' => R u w'
  | .ok .skip w' => R undef w'
  | .ok (.enter f args) w' => Calls P f args w' fun e w'' => ∃ v, e = .returned v ∧ R v w''
  | _ => False
def addAt (P : Program) (o : Oper) (a : Act) (w : World) (R : Value → World → Prop) : Prop := addUpon P R ((execOp a.eval o).run P w)
/-- an append to a slice that is nil or the call's own -/
theorem addAt_append {P : Program} {o : Oper} {a : Act} {w : World} {R : Value → World → Prop} (s x : Operand) (t : TypeId)
    (ho : o.op = .call { callee := .builtin .append, args := #[s, x], argTypes := #[t, t] })
    (base : Nat) (e : TypeId) (i : TypeInfo) (z : Value) (size bytes : Nat) (ht : P.underlying t = some (.slice e)) (hi : P.info? e = some i) (hz : i.zero = some z)
    (hsize : i.size = size) (hby : i.bytes = bytes) (hzs : z.cells.size = size) (hsz : 0 < size)
    (v : Value) (n : Nat) (xs : List Value) (hs : a.eval s = v) (hown : w.ownsRow base e size v n xs)
    (ad : Addr) (m c : Nat) (news : List Value) (hx : a.eval x = .slice (some ad) m c) (hl : news.length = m * size) (hnews : ∀ j u, news[j]? = some u → w.cell? (ad.add j) = some u) (h1 : ∀ u ∈ news, u.oneCell' = true)
    (h63 : n + m ≤ maxLen) (hbytes : (n + m) * bytes ≤ 140737488355328) (hbase : base ≤ w.heap.size)
    (h : ∀ v' w', w'.ownsRow base e size v' (n + m) (xs ++ news) → w.grownBy w' v.ownBlock → R v' w') : addAt P o a w R := by
  obtain ⟨v', w', hr, h2, h3, -⟩ := run_append_own (P := P) w base t o.type e i z size bytes ht hi hz hsize hby hzs hsz v n xs hown ad m c news hl hnews h1 h63 hbytes hbase
  unfold addAt execOp
  simp only [ho, resolve, invoke, builtin, Sem.run_bind, Sem.run_pure, Result.andThen_ok, List.map_toArray, List.map_cons, List.map_nil, hs, hx, hr]
  exact h v' w' h2 h3
theorem addAt_wp {P : Program} {o : Oper} {a b : Act} {w : World} {R : Value → World → Prop} {K : Act → World → Prop} {Q : Exit → Act → World → Prop} (h : addAt P o a w R) (he : execOp b.eval o = execOp a.eval o) (hK : ∀ u w', R u w' → K (b.put o.dst u) w') : o.wp P b w K Q := by
  unfold addAt at h
  unfold Oper.wp
  rw [he]
  generalize (execOp a.eval o).run P w = r at *
  cases r with
  | ok n w' =>
    cases n <;> simp only [addUpon] at h <;> simp only [Oper.upon]
    case value u => exact hK _ _ h
    case skip => exact hK _ _ h
    case enter f args => exact h.mono fun e w'' ⟨v, hv, hr⟩ => by subst hv; exact hK _ _ hr
  | halt x w' => simp only [addUpon] at h
/-- the kind of operation number j; the list is in reverse -/
def atR : List AK → Nat → Option AK
  | [], _ => none
  | k :: K, j => if j = K.length then some k else atR K j
theorem atR_lt {K : List AK} {j : Nat} {k : AK} (h : atR K j = some k) : j < K.length := by
  induction K with
  | nil => cases h
  | cons k' K ih =>
    unfold atR at h
    rw [List.length_cons]
    split at h
    · omega
    · have := ih h; omega
theorem atR_split {K : List AK} {j : Nat} (h : j < K.length) : ∃ pre k K', K = pre ++ k :: K' ∧ K'.length = j ∧ atR K j = some k := by
  induction K with
  | nil => cases h
  | cons k' K ih =>
    by_cases e : j = K.length
    · exact ⟨[], k', K, rfl, e.symm, by rw [atR, if_pos e]⟩
    · obtain ⟨pre, k, K', h1, h2, h3⟩ := ih (by rw [List.length_cons] at h; omega)
      exact ⟨k' :: pre, k, K', by rw [h1]; rfl, h2, by rw [atR, if_neg e]; exact h3⟩
theorem atR_suffix {pre K : List AK} {j : Nat} (h : j < K.length) : atR (pre ++ K) j = atR K j := by
  induction pre with
  | nil => rfl
  | cons p pre ih =>
    rw [List.cons_append, atR, if_neg (by rw [List.length_append]; omega)]
    exact ih
section
variable {P : Program} {ops : Array Oper} {A : List (List Nat)} {C E : World → Prop} {a0 : Act}
/-- the frame behind those operations of the list that lie in S -/
def putsR (ops : Array Oper) (a0 : Act) (x : Nat → Value) (S : Nat → Bool) : List AK → Act
  | [] => a0
  | k :: K => match ops[K.length]? with
    | some o => if S K.length then (putsR ops a0 x S K).put o.dst (k.val (x K.length)) else putsR ops a0 x S K
    | none => putsR ops a0 x S K
theorem putsR_size (x : Nat → Value) (S : Nat → Bool) (K : List AK) : (putsR ops a0 x S K).tmps.size = a0.tmps.size := by
  induction K with
  | nil => rfl
  | cons k K ih =>
    unfold putsR
    split
    · split
      · unfold Act.put
        split
        · simp [ih]
        · exact ih
      · exact ih
    · exact ih
theorem putsR_congr {x x' : Nat → Value} {S S' : Nat → Bool} {K : List AK} (hx : ∀ j, j < K.length → x j = x' j) (hS : ∀ j, j < K.length → S j = S' j) : putsR ops a0 x S K = putsR ops a0 x' S' K := by
  induction K with
  | nil => rfl
  | cons k K ih =>
    have e := ih (fun j hj => hx j (by rw [List.length_cons]; omega)) (fun j hj => hS j (by rw [List.length_cons]; omega))
    unfold putsR
    rw [e, hx _ (by rw [List.length_cons]; omega), hS _ (by rw [List.length_cons]; omega)]
theorem put_get_ne {a : Act} {dst : Option Tmp} {v : Value} {t : Tmp} (h : dst ≠ some t) : (a.put dst v).tmps[t]? = a.tmps[t]? := by
  cases dst with
  | none => rfl
  | some d =>
    have : d ≠ t := fun e => h (by rw [e])
    simp [Act.put, Array.getElem?_setIfInBounds_ne this]
theorem put_get_eq {a b : Act} {dst : Option Tmp} {v : Value} {t : Tmp} (hs : a.tmps.size = b.tmps.size) (h : a.tmps[t]? = b.tmps[t]?) : (a.put dst v).tmps[t]? = (b.put dst v).tmps[t]? := by
  cases dst with
  | none => exact h
  | some d =>
    by_cases e : d = t
    · subst e
      simp [Act.put, Array.getElem?_setIfInBounds, hs]
    · simp [Act.put, Array.getElem?_setIfInBounds_ne e, h]
theorem putsR_get {x : Nat → Value} {S S' : Nat → Bool} {t : Tmp} {K : List AK} (h : ∀ j, j < K.length → S j ≠ S' j → ∀ o, ops[j]? = some o → o.dst ≠ some t) : (putsR ops a0 x S K).tmps[t]? = (putsR ops a0 x S' K).tmps[t]? := by
  induction K with
  | nil => rfl
  | cons k K ih =>
    have e := ih fun j hj => h j (by rw [List.length_cons]; omega)
    have hl : K.length < (k :: K).length := by rw [List.length_cons]; omega
    unfold putsR
    cases ho : ops[K.length]? with
    | none => exact e
    | some o =>
      dsimp only
      by_cases hS : S K.length = S' K.length
      · rw [hS]
        split
        · exact put_get_eq ((putsR_size _ _ _).trans (putsR_size _ _ _).symm) e
        · exact e
      · have hd := h _ hl hS o ho
        split <;> split
        · rw [put_get_ne hd, put_get_ne hd]; exact e
        · rw [put_get_ne hd]; exact e
        · rw [put_get_ne hd]; exact e
        · exact e
theorem putsR_pre {x : Nat → Value} {S : Nat → Bool} {t : Tmp} {K pre : List AK} (h : ∀ j, K.length ≤ j → j < (pre ++ K).length → S j = true → ∀ o, ops[j]? = some o → o.dst ≠ some t) : (putsR ops a0 x S (pre ++ K)).tmps[t]? = (putsR ops a0 x S K).tmps[t]? := by
  induction pre with
  | nil => rfl
  | cons p pre ih =>
    have e := ih fun j hj hl => h j hj (by rw [List.cons_append, List.length_cons]; omega)
    rw [List.cons_append, putsR]
    cases ho : ops[(pre ++ K).length]? with
    | none => exact e
    | some o =>
      dsimp only
      split
      · rename_i hS
        rw [put_get_ne (h _ (by rw [List.length_append]; omega) (by rw [List.cons_append, List.length_cons]; omega) hS o ho)]
        exact e
      · exact e
def updX (x : Nat → Value) (i : Nat) (v : Value) : Nat → Value := fun j => if j = i then v else x j
theorem updX_self (x : Nat → Value) (i : Nat) (v : Value) : updX x i v i = v := if_pos rfl
theorem updX_ne (x : Nat → Value) {i j : Nat} (v : Value) (h : j ≠ i) : updX x i v j = x j := if_neg h
def updS (S : Nat → Bool) (i : Nat) : Nat → Bool := fun j => if j = i then true else S j
theorem putsR_insert {x : Nat → Value} {S : Nat → Bool} {o : Oper} {k : AK} {K pre : List AK} {v : Value} (ho : ops[K.length]? = some o) (hS : S K.length = false) (hv : k.val v = v) (hd : ∀ j oj, j ≠ K.length → ops[j]? = some oj → ∀ d, oj.dst = some d → o.dst ≠ some d) :
    (putsR ops a0 x S (pre ++ k :: K)).put o.dst v = putsR ops a0 (updX x K.length v) (updS S K.length) (pre ++ k :: K) := by
  induction pre with
  | nil =>
    have e : putsR ops a0 (updX x K.length v) (updS S K.length) K = putsR ops a0 x S K := putsR_congr (fun j hj => if_neg (by omega)) fun j hj => if_neg (by omega)
    rw [List.nil_append, putsR, putsR, ho, e]
    dsimp only
    rw [if_neg (by rw [hS]; exact Bool.false_ne_true), if_pos (show updS S K.length K.length = true from if_pos rfl), show updX x K.length v K.length = v from if_pos rfl, hv]
  | cons p pre ih =>
    have hl : (pre ++ k :: K).length ≠ K.length := by rw [List.length_append, List.length_cons]; omega
    rw [List.cons_append, putsR, putsR]
    cases hom : ops[(pre ++ k :: K).length]? with
    | none => exact ih
    | some om =>
      dsimp only
      rw [show updS S K.length (pre ++ k :: K).length = S (pre ++ k :: K).length from if_neg hl, show updX x K.length v (pre ++ k :: K).length = x (pre ++ k :: K).length from if_neg hl]
      split
      · rw [Act.put_comm _ _ _ (hd _ om hl hom), ih]
      · exact ih
/-- what holds of the values of the operations in l; b: one of l behind them writes -/
def FactsR (l : List Nat) (weak : Bool) (x : Nat → Value) (w : World) : Bool → List AK → Prop
  | _, [] => True
  | b, k :: K => ((l.contains K.length = true → k.free x) ∧ (weak = false → b = false → l.contains K.length = true → k.fact x w)) ∧ FactsR l weak x w (b || (k.isWrt && l.contains K.length)) K
def noTAt (K : List AK) (j : Nat) : Bool := match atR K j with
  | some k => k.noT
  | none => true
def wrtAt (K : List AK) (j : Nat) : Bool := match atR K j with
  | some k => k.isWrt
  | none => false
theorem wrtAt_ge {K : List AK} {j : Nat} (h : K.length ≤ j) : wrtAt K j = false := by
  unfold wrtAt
  cases e : atR K j with
  | none => rfl
  | some k => have := atR_lt e; omega
theorem wrtAt_cons {k : AK} {K : List AK} {j : Nat} (h : j < K.length) : wrtAt (k :: K) j = wrtAt K j := by
  unfold wrtAt; rw [atR, if_neg (by omega)]
theorem wrtAt_head {k : AK} {K : List AK} : wrtAt (k :: K) K.length = k.isWrt := by
  unfold wrtAt; rw [atR, if_pos rfl]
theorem factsR_of {l : List Nat} {weak : Bool} {x : Nat → Value} {w : World} {K : List AK} : ∀ b : Bool, (∀ j k, j ∈ l → atR K j = some k → k.free x) → (weak = false → b = false → ∀ j k, j ∈ l → atR K j = some k → (∀ s, j < s → s ∈ l → wrtAt K s = false) → k.fact x w) → FactsR l weak x w b K := by
  induction K with
  | nil => exact fun _ _ _ => trivial
  | cons k K ih =>
    intro b hf h
    refine ⟨⟨fun hc => hf _ k (by simpa using hc) (if_pos rfl), fun hw hb hc => h hw hb _ k (by simpa using hc) (if_pos rfl) fun s hs _ => wrtAt_ge (by rw [List.length_cons]; omega)⟩, ih _ (fun j k' hj hk => hf j k' hj (by rw [atR, if_neg (by have := atR_lt hk; omega)]; exact hk)) fun hw hb j k' hj hk hs => ?_⟩
    rw [Bool.or_eq_false_iff, Bool.and_eq_false_iff] at hb
    have hjl := atR_lt hk
    refine h hw hb.1 j k' hj (by rw [atR, if_neg (by omega)]; exact hk) fun s hjs hsl => ?_
    rcases Nat.lt_trichotomy s K.length with h1 | h1 | h1
    · rw [wrtAt_cons h1]; exact hs s hjs hsl
    · subst h1
      rw [wrtAt_head]
      rcases hb.2 with h2 | h2
      · exact h2
      · simp [hsl] at h2
    · exact wrtAt_ge (by rw [List.length_cons]; omega)
def newAt (K : List AK) (j : Nat) : Bool := match atR K j with
  | some k => k.isNew
  | none => false
/-- new blocks are different ones -/
def DistR (l : List Nat) (K : List AK) (x : Nat → Value) : Prop := ∀ i j, i ∈ l → j ∈ l → i ≠ j → newAt K i = true → newAt K j = true → x i ≠ x j
/-- only what is free of worlds holds whenever -/
def AK.weak (k : AK) : Bool := decide (2 ≤ k.lv)
/-- the worlds in which an operation may come up -/
def clsA (C E : World → Prop) (lv : Nat) (w : World) : Prop := E w ∧ (lv = 0 → C w)
/-- what other operations may do to the world -/
structure RelOk (Rl : World → World → Prop) : Prop where
  refl : ∀ w, Rl w w
  size : ∀ w w', Rl w w' → w.heap.size ≤ w'.heap.size
abbrev BelowR (w w' : World) : Prop := Below w.heap.size w w'
theorem belowOk : RelOk BelowR := ⟨fun _ => Below.refl _ _, fun _ _ h => h.size⟩
/-- what is asked of an operation -/
def Ob (Rl : World → World → Prop) (P : Program) (ops : Array Oper) (C E : World → Prop) (a0 : Act) (K : List AK) (k : AK) (o : Oper) (l : List Nat) : Prop :=
  ∀ x w, clsA C E k.lv w → FactsR l k.weak x w false K → DistR l K x →
    (Region.wanted o (yielded ops (putsR ops a0 x (fun _ => true) K).tmps) = true ∧ addAt P o (putsR ops a0 x (fun _ => true) K) w fun u w' => k.val u = u ∧ k.free (updX x K.length u) ∧ k.fact (updX x K.length u) w' ∧ (k.isWrt = true → E w' ∧ w.heap.size ≤ w'.heap.size) ∧ (k.isWrt = false → Rl w w') ∧ (k.isNew = true → u = .pointer (some ⟨w.heap.size, 0, none⟩) ∧ w.heap.size < w'.heap.size)) ∨
    (Region.wanted o (yielded ops (putsR ops a0 x (fun _ => true) K).tmps) = false ∧ ∃ l, k = .con l undef)
def Stable (Rl : World → World → Prop) (k : AK) : Prop := ∀ x w w', k.fact x w → Rl w w' → k.fact x w'
def Local (l : List Nat) (j : Nat) (k : AK) : Prop := ∀ x x', (∀ m, m = j ∨ m ∈ l → x m = x' m) → (k.free x → k.free x') ∧ ∀ w, k.fact x w → k.fact x' w
def Obs (Rl : World → World → Prop) (P : Program) (ops : Array Oper) (A : List (List Nat)) (C E : World → Prop) (a0 : Act) : List AK → Prop
  | [] => True
  | k :: K => ((∃ o, ops[K.length]? = some o ∧ Ob Rl P ops C E a0 K k o (A.getD K.length [])) ∧ Stable Rl k ∧ Local (A.getD K.length []) K.length k) ∧ Obs Rl P ops A C E a0 K
theorem obs_at {Rl : World → World → Prop} {pre K : List AK} {k : AK} (h : Obs Rl P ops A C E a0 (pre ++ k :: K)) : (∃ o, ops[K.length]? = some o ∧ Ob Rl P ops C E a0 K k o (A.getD K.length [])) ∧ Stable Rl k ∧ Local (A.getD K.length []) K.length k := by
  induction pre with
  | nil => exact h.1
  | cons p pre ih => exact ih h.2
/-- the table of what comes ahead of what -/
def okA (ops : Array Oper) (A : List (List Nat)) : Bool :=
  Region.noSelect ops && (List.range ops.size).all fun i => match ops[i]? with
    | none => true
    | some o =>
      (A.getD i []).all (fun j => decide (j < i) && o.after.any fun e => Region.binds .any e && (e.on == j || (A.getD e.on []).contains j)) &&
      o.after.all (fun e => !Region.binds .any e || decide (e.on < i)) &&
      (List.range ops.size).all fun j => j == i || match ops[j]? with
        | none => true
        | some oj => match oj.dst with
          | none => true
          | some d => (o.dst != some d) && (!(o.looksAt ops).contains d || (A.getD i []).contains j || (A.getD j []).contains i)
theorem okA_spec (h : okA ops A = true) {i : Nat} {o : Oper} (ho : ops[i]? = some o) :
    (∀ j ∈ A.getD i [], j < i ∧ ∃ e ∈ o.after, Region.binds .any e = true ∧ (e.on = j ∨ j ∈ A.getD e.on [])) ∧
    (∀ e ∈ o.after, Region.binds .any e = true → e.on < i) ∧
    (∀ j oj d, j ≠ i → ops[j]? = some oj → oj.dst = some d → o.dst ≠ some d ∧ (d ∈ o.looksAt ops → j ∈ A.getD i [] ∨ i ∈ A.getD j [])) := by
  simp only [okA, Bool.and_eq_true, List.all_eq_true, List.mem_range] at h
  have h1 := h.2 i (Array.getElem?_eq_some_iff.1 ho).1
  rw [ho] at h1
  simp only [Bool.and_eq_true, List.all_eq_true, List.mem_range] at h1
  obtain ⟨⟨h2, h3⟩, h4⟩ := h1
  refine ⟨fun j hj => ?_, fun e he hb => ?_, fun j oj d hji hoj hd => ?_⟩
  · have := h2 j hj
    obtain ⟨e1, e2⟩ := this
    obtain ⟨e, he, hb⟩ := Array.any_eq_true'.1 e2
    simp only [Bool.and_eq_true, Bool.or_eq_true, beq_iff_eq, List.contains_iff_mem] at hb
    exact ⟨of_decide_eq_true e1, e, he, hb.1, hb.2⟩
  · have := Array.all_eq_true_iff_forall_mem.1 h3 e he
    simp only [hb, Bool.not_true, Bool.false_or] at this
    exact of_decide_eq_true this
  · have := h4 j (Array.getElem?_eq_some_iff.1 hoj).1
    rw [hoj] at this
    simp only [Bool.or_eq_true, beq_iff_eq, hji, false_or, hd, Bool.and_eq_true, Bool.not_eq_true', bne_iff_ne, ne_eq, List.contains_iff_mem] at this
    refine ⟨this.1, fun hm => ?_⟩
    rcases this.2 with (h5 | h5) | h5
    · simp [hm] at h5
    · exact .inl h5
    · exact .inr h5
def lvAt (K : List AK) (j : Nat) : Nat := match atR K j with
  | some k => k.lv
  | none => 2
/-- where what writes and what else is asked of a world come one behind the other -/
def okK (n : Nat) (A : List (List Nat)) (K : List AK) : Bool :=
  (List.range n).all fun s => !wrtAt K s || (List.range n).all fun i => i == s || (decide (2 ≤ lvAt K i) && noTAt K i) || (A.getD s []).contains i || (decide (1 ≤ lvAt K i) && (A.getD i []).contains s)
theorem okK_spec {n : Nat} {K : List AK} (h : okK n A K = true) {s i : Nat} (hw : wrtAt K s = true) (hsn : s < n) (hin : i < n) (hne : i ≠ s) :
    (2 ≤ lvAt K i ∧ noTAt K i = true) ∨ i ∈ A.getD s [] ∨ (1 ≤ lvAt K i ∧ s ∈ A.getD i []) := by
  simp only [okK, List.all_eq_true, List.mem_range] at h
  have h1 := h s hsn
  rw [hw] at h1
  simp only [Bool.not_true, Bool.false_or, List.all_eq_true, List.mem_range] at h1
  have h2 := h1 i hin
  simp only [Bool.or_eq_true, beq_iff_eq, hne, false_or, List.contains_iff_mem, Bool.and_eq_true, decide_eq_true_eq] at h2
  rcases h2 with (h2 | h2) | h2
  · exact .inl h2
  · exact .inr (.inl h2)
  · exact .inr (.inr h2)
theorem noT_fact {K : List AK} {j : Nat} {k : AK} (hc : noTAt K j = true) (hk : atR K j = some k) (v : Nat → Value) (w : World) : k.fact v w := by
  unfold noTAt at hc
  rw [hk] at hc
  cases k <;> first | trivial | cases hc
/-- what holds between two operations -/
structure InvA (A : List (List Nat)) (C E : World → Prop) (K : List AK) (x : Nat → Value) (listed : Array Bool) (w : World) : Prop where
  e : E w
  c : (∀ s, wrtAt K s = true → listed.getD s false = false) → C w
  cl : ∀ j, listed.getD j false = true → ∀ m ∈ A.getD j [], listed.getD m false = true
  g : ∀ j k, atR K j = some k → listed.getD j false = true → k.free x
  ns : ∀ j, newAt K j = true → listed.getD j false = true → ∃ B, x j = .pointer (some ⟨B, 0, none⟩) ∧ B < w.heap.size
  nd : ∀ i j, newAt K i = true → newAt K j = true → listed.getD i false = true → listed.getD j false = true → i ≠ j → x i ≠ x j
  f : ∀ j k, atR K j = some k → listed.getD j false = true → (∀ s, wrtAt K s = true → listed.getD s false = true → s = j ∨ s ∈ A.getD j []) → k.fact x w
def EndR (x : Nat → Value) (w : World) : Bool → List AK → Prop
  | _, [] => True
  | b, k :: K => (k.free x ∧ (b = false → k.fact x w)) ∧ EndR x w (b || k.isWrt) K
theorem endR_of {x : Nat → Value} {w : World} {K : List AK} : ∀ b : Bool, (∀ j k, atR K j = some k → k.free x) → (b = false → ∀ j k, atR K j = some k → (∀ s, j < s → wrtAt K s = false) → k.fact x w) → EndR x w b K := by
  induction K with
  | nil => exact fun _ _ _ => trivial
  | cons k K ih =>
    intro b hf h
    refine ⟨⟨hf _ k (if_pos rfl), fun hb => h hb _ k (if_pos rfl) fun s hs => wrtAt_ge (by rw [List.length_cons]; omega)⟩, ih _ (fun j k' hk => hf j k' (by rw [atR, if_neg (by have := atR_lt hk; omega)]; exact hk)) fun hb j k' hk hs => ?_⟩
    rw [Bool.or_eq_false_iff] at hb
    have hjl := atR_lt hk
    refine h hb.1 j k' (by rw [atR, if_neg (by omega)]; exact hk) fun s hjs => ?_
    rcases Nat.lt_trichotomy s K.length with h1 | h1 | h1
    · rw [wrtAt_cons h1]; exact hs s hjs
    · subst h1; rw [wrtAt_head]; exact hb.2
    · exact wrtAt_ge (by rw [List.length_cons]; omega)
theorem any_wrt {K : List AK} (h : K.any AK.isWrt = false) {s : Nat} : wrtAt K s = false := by
  induction K with
  | nil => rfl
  | cons k K ih =>
    rw [List.any_cons, Bool.or_eq_false_iff] at h
    rcases Nat.lt_trichotomy s K.length with h1 | h1 | h1
    · rw [wrtAt_cons h1]; exact ih h.2
    · subst h1; rw [wrtAt_head]; exact h.1
    · exact wrtAt_ge (by rw [List.length_cons]; omega)
theorem newAt_lt {K : List AK} {j : Nat} (h : newAt K j = true) : j < K.length := by
  unfold newAt at h
  cases e : atR K j with
  | none => rw [e] at h; cases h
  | some k => exact atR_lt e
theorem countP_lt {l : List Nat} {p q : Nat → Bool} (h : ∀ j, q j = true → p j = true) {i : Nat} (hi : i ∈ l) (hp : p i = true) (hq : q i = false) : l.countP q + 1 ≤ l.countP p := by
  induction l with
  | nil => cases hi
  | cons a l ih =>
    have hle : ∀ m : List Nat, m.countP q ≤ m.countP p := fun m => List.countP_mono_left fun j _ => h j
    rw [List.countP_cons, List.countP_cons]
    rcases List.mem_cons.1 hi with rfl | hi
    · rw [hp, hq]
      have := hle l
      simp; omega
    · have := ih hi
      by_cases hqa : q a = true
      · rw [hqa, h a hqa]; simp; omega
      · have : q a = false := by simpa using hqa
        rw [this]
        simp
        split <;> omega
theorem getD_set {listed : Array Bool} {i j : Nat} (hi : i < listed.size) : (listed.setIfInBounds i true).getD j false = if j = i then true else listed.getD j false := by
  by_cases e : j = i
  · subst e; simp [hi]
  · rw [if_neg e, getD_set_ne false (Ne.symm e)]
theorem getD_tf {listed : Array Bool} {i : Nat} (h : listed.getD i true = false) : i < listed.size ∧ listed.getD i false = false := by
  rcases Nat.lt_or_ge i listed.size with h' | h'
  · exact ⟨h', by simpa [h'] using h⟩
  · simp [Array.getElem?_eq_none h'] at h
/-- whatever order is picked -/
theorem any_of_add {Rl : World → World → Prop} (hRl : RelOk Rl) {Q : Exit → Act → World → Prop} {K : List AK} (hA : okA ops A = true) (hK : okK ops.size A K = true) (hn : K.length = ops.size) (hO : Obs Rl P ops A C E a0 K)
    (hsC : ∀ w w', C w → Rl w w' → C w') (hsE : ∀ w w', E w → Rl w w' → E w')
    (hE : ∀ x w, E w → (K.any AK.isWrt = false → C w) → EndR x w false K → (∀ i j, newAt K i = true → newAt K j = true → i ≠ j → x i ≠ x j) → Q .normal (putsR ops a0 x (fun _ => true) K) w) :
    ∀ (fuel : Nat) (listed : Array Bool) (x : Nat → Value) (w : World), InvA A C E K x listed w → listed.size = ops.size → (List.range ops.size).countP (fun i => !listed.getD i false) ≤ fuel →
      wpAny P .any ops Q fuel listed (putsR ops a0 x (fun j => listed.getD j false) K) w := by
  have hend : ∀ (listed : Array Bool) (x : Nat → Value) (w : World), InvA A C E K x listed w → (∀ i, i < ops.size → listed.getD i false = true) → Q .normal (putsR ops a0 x (fun j => listed.getD j false) K) w := by
    intro listed x w hI hall
    rw [putsR_congr (x' := x) (S' := fun _ => true) (fun _ _ => rfl) (fun j hj => hall j (by omega))]
    refine hE x w hI.e (fun hnw => hI.c fun s hs => by rw [any_wrt hnw] at hs; cases hs) ?_ fun i j hi hj => hI.nd i j hi hj (hall i (by have := newAt_lt hi; omega)) (hall j (by have := newAt_lt hj; omega))
    refine (endR_of _ (fun j k hk => hI.g j k hk (hall j (by have := atR_lt hk; omega))) fun _ j k hk hs => ?_)
    have hjl := atR_lt hk
    by_cases hc : noTAt K j = true
    · exact noT_fact hc hk _ _
    refine hI.f j k hk (hall j (by omega)) fun s hw hls => ?_
    have hsl : s < K.length := by
      rcases Nat.lt_or_ge s K.length with h | h
      · exact h
      · rw [wrtAt_ge h] at hw; cases hw
    by_cases e : s = j
    · exact .inl e
    · have hsj : s < j := by
        rcases Nat.lt_or_ge j s with h | h
        · rw [hs s h] at hw; cases hw
        · omega
      obtain ⟨oj, hoj⟩ : ∃ oj, ops[s]? = some oj := ⟨ops[s]'(by omega), Array.getElem?_eq_getElem (by omega)⟩
      rcases okK_spec hK hw (by omega) (i := j) (by omega) (Ne.symm e) with h | h | h
      · exact absurd h.2 hc
      · have := ((okA_spec hA hoj).1 _ h).1; omega
      · exact .inr h.2
  intro fuel
  induction fuel with
  | zero =>
    intro listed x w hI hsz hc
    have hall : ∀ i, i < ops.size → listed.getD i false = true := by
      intro i hi
      have := List.countP_eq_zero.1 (Nat.le_zero.1 hc) i (List.mem_range.2 hi)
      simpa using this
    refine ⟨?_, hend listed x w hI hall⟩
    cases hr : Region.ready .any ops listed with
    | nil => rfl
    | cons j l =>
      have hj : j ∈ Region.ready .any ops listed := by rw [hr]; simp
      obtain ⟨h0, o, ho, -⟩ := mem_ready.1 hj
      have := hall j (Array.getElem?_eq_some_iff.1 ho).1
      rw [(getD_tf h0).2] at this
      cases this
  | succ fuel ih =>
    intro listed x w hI hsz hc
    refine ⟨fun hr => hend listed x w hI fun i => ?_, fun i hi => ?_⟩
    · induction i using Nat.strongRecOn with
      | ind i ihi =>
        intro hin
        obtain ⟨o, ho⟩ : ∃ o, ops[i]? = some o := ⟨ops[i], Array.getElem?_eq_getElem hin⟩
        cases hl : listed.getD i false with
        | true => rfl
        | false =>
          exfalso
          have : i ∈ Region.ready .any ops listed := mem_ready.2 ⟨by
            have : i < listed.size := by omega
            simpa [this] using hl, o, ho, fun e he hb => by
              have hlt := (okA_spec hA ho).2.1 e he hb
              exact ihi e.on hlt (by omega)⟩
          rw [hr] at this
          cases this
    · obtain ⟨hun, o, ho, haft⟩ := mem_ready.1 hi
      obtain ⟨hisz, hunf⟩ := getD_tf hun
      have hin : i < ops.size := (Array.getElem?_eq_some_iff.1 ho).1
      obtain ⟨hanc, -, hdst⟩ := okA_spec hA ho
      have hAl : ∀ j ∈ A.getD i [], listed.getD j false = true := by
        intro j hj
        obtain ⟨-, e, he, hb, hor⟩ := hanc j hj
        rcases hor with rfl | hor
        · exact haft e he hb
        · exact hI.cl e.on (haft e he hb) j hor
      obtain ⟨pre, k, K', hKe, hKl, hat⟩ := atR_split (K := K) (j := i) (by omega)
      subst hKl
      obtain ⟨⟨o', ho', hob⟩, hst⟩ := obs_at (hKe ▸ hO)
      obtain rfl : o = o' := Option.some.inj (ho.symm.trans ho')
      have hlvi : lvAt K K'.length = k.lv := by unfold lvAt; rw [hat]
      have hfact : k.weak = false → ∀ j k', j ∈ A.getD K'.length [] → atR K j = some k' → (∀ s, j < s → s ∈ A.getD K'.length [] → wrtAt K s = false) → k'.fact x w := by
        intro hwk j k' hj hk' hs
        by_cases hc : noTAt K j = true
        · exact noT_fact hc hk' _ _
        refine hI.f j k' hk' (hAl j hj) fun s hw hls => ?_
        have hsl : s < K.length := by
          rcases Nat.lt_or_ge s K.length with h | h
          · exact h
          · rw [wrtAt_ge h] at hw; cases hw
        by_cases e : s = j
        · exact .inl e
        have hsi : K'.length ≠ s := fun e => by rw [← e, hunf] at hls; cases hls
        rcases okK_spec hK hw (by omega) hin hsi with h | h | h
        · unfold AK.weak at hwk
          have := of_decide_eq_false hwk
          omega
        · rw [hI.cl s hls _ h] at hunf; cases hunf
        · have hsj : s < j := by
            rcases Nat.lt_or_ge j s with h1 | h1
            · rw [hs s h1 h.2] at hw; cases hw
            · omega
          obtain ⟨oj, hoj⟩ : ∃ oj, ops[s]? = some oj := ⟨ops[s]'(by omega), Array.getElem?_eq_getElem (by omega)⟩
          rcases okK_spec hK hw (by omega) (i := j) (by have := atR_lt hk'; omega) (Ne.symm e) with h | h | h
          · exact absurd h.2 hc
          · have := ((okA_spec hA hoj).1 _ h).1; omega
          · exact .inr h.2
      have hsuf : ∀ j, j < K'.length → atR K j = atR K' j := fun j hj => by rw [hKe, show pre ++ k :: K' = (pre ++ [k]) ++ K' by simp, atR_suffix hj]
      have hF : FactsR (A.getD K'.length []) k.weak x w false K' := factsR_of _ (fun j k' hj hk' => hI.g j k' (by rw [hsuf _ (atR_lt hk')]; exact hk') (hAl j hj)) fun hwk _ j k' hj hk' hs => hfact hwk j k' hj (by rw [hsuf _ (atR_lt hk')]; exact hk') fun s hjs hsA => by
        have h1 := hs s hjs hsA
        unfold wrtAt at *
        rw [hsuf s (hanc s hsA).1]; exact h1
      -- the frame that is met and the frame of the walk
      have hget : ∀ t, t ∈ o.looksAt ops → (putsR ops a0 x (fun j => listed.getD j false) K).tmps[t]? = (putsR ops a0 x (fun _ => true) K').tmps[t]? := by
        intro t ht
        rw [hKe, show pre ++ k :: K' = (pre ++ [k]) ++ K' by simp, putsR_pre (fun j hj hjl hS oj hoj hd => ?_)]
        · refine putsR_get fun j hj hne oj hoj hd => ?_
          have hlj : listed.getD j false = false := by
            cases h : listed.getD j false with
            | false => rfl
            | true => exact absurd h hne
          rcases (hdst j oj t (by omega) hoj hd).2 ht with h1 | h1
          · rw [hAl j h1] at hlj; cases hlj
          · have := ((okA_spec hA hoj).1 _ h1).1; omega
        · have hji : j ≠ K'.length := fun e => by rw [e, hunf] at hS; cases hS
          rcases (hdst j oj t hji hoj hd).2 ht with h1 | h1
          · have := (hanc j h1).1; omega
          · have := hI.cl j hS _ h1
            rw [hunf] at this; cases this
      have hsel : ∀ cs b, o.op ≠ .select cs b := fun cs b => Region.noSelect_spec (by simp only [okA, Bool.and_eq_true] at hA; exact hA.1) _ o cs b ho
      have hex : execOp (putsR ops a0 x (fun j => listed.getD j false) K).eval o = execOp (putsR ops a0 x (fun _ => true) K').eval o := execOp_congr o hsel fun y hy => by
        cases y with
        | tmp t =>
          have := hget t (List.mem_append_left _ (List.mem_filterMap.2 ⟨.tmp t, by simpa using hy, rfl⟩))
          show (putsR ops a0 x (fun j => listed.getD j false) K).tmps.getD t undef = (putsR ops a0 x (fun _ => true) K').tmps.getD t undef
          rw [Array.getD_eq_getD_getElem?, Array.getD_eq_getD_getElem? (xs := (putsR ops a0 x (fun _ => true) K').tmps), this]
        | _ => rfl
      have hwant : Region.wanted o (yielded ops (putsR ops a0 x (fun j => listed.getD j false) K).tmps) = Region.wanted o (yielded ops (putsR ops a0 x (fun _ => true) K').tmps) := by
        unfold Region.wanted
        cases hg : o.guard with
        | none => rfl
        | some gw =>
          obtain ⟨g, want⟩ := gw
          have hy : yielded ops (putsR ops a0 x (fun j => listed.getD j false) K).tmps g = yielded ops (putsR ops a0 x (fun _ => true) K').tmps g := by
            unfold yielded
            cases ht : (ops[g]?).bind (·.dst) with
            | none => rfl
            | some t =>
              have := hget t (by simp [Oper.looksAt, hg, ht])
              simp only [Option.bind_some, this]
          simp only [hy]
      have hcnt : (List.range ops.size).countP (fun j => !(listed.setIfInBounds K'.length true).getD j false) ≤ fuel := by
        have := countP_lt (l := List.range ops.size) (p := fun j => !listed.getD j false) (q := fun j => !(listed.setIfInBounds K'.length true).getD j false) (fun j hj => by
          rw [getD_set hisz] at hj
          split at hj
          · cases hj
          · exact hj) (i := K'.length) (List.mem_range.2 hin) (by rw [hunf]; rfl) (by rw [getD_set hisz, if_pos rfl]; rfl)
        omega
      -- behind the operation
      have hnext : ∀ u w', k.val u = u → k.free (updX x K'.length u) → k.fact (updX x K'.length u) w' → (k.isWrt = true → E w' ∧ w.heap.size ≤ w'.heap.size) → (k.isWrt = false → Rl w w') → (k.isNew = true → u = .pointer (some ⟨w.heap.size, 0, none⟩) ∧ w.heap.size < w'.heap.size) →
          wpAny P .any ops Q fuel (listed.setIfInBounds K'.length true) ((putsR ops a0 x (fun j => listed.getD j false) K).put o.dst u) w' := by
        intro u w' hv hfr0 hf he' hb hnew
        have hsz' : w.heap.size ≤ w'.heap.size := by
          cases h : k.isWrt with
          | true => exact (he' h).2
          | false => exact hRl.size _ _ (hb h)
        have hni : newAt K K'.length = k.isNew := by unfold newAt; rw [hat]
        have hfr : (putsR ops a0 x (fun j => listed.getD j false) K).put o.dst u = putsR ops a0 (updX x K'.length u) (fun j => (listed.setIfInBounds K'.length true).getD j false) K := by
          rw [hKe, putsR_insert ho hunf hv (fun j oj hj hoj d hd => (hdst j oj d hj hoj hd).1)]
          refine putsR_congr (fun _ _ => rfl) fun j _ => ?_
          rw [getD_set hisz]; rfl
        rw [hfr]
        have hwi : wrtAt K K'.length = k.isWrt := by unfold wrtAt; rw [hat]
        refine ih _ _ _ ⟨?_, fun hno => ?_, fun j hj m hm => ?_, fun j k' hk' hl => ?_, fun j hn hl => ?_, fun i j hin' hjn hil hjl hij => ?_, fun j k' hk' hl hall => ?_⟩ (by simpa using hsz) hcnt
        · cases h : k.isWrt with
          | true => exact (he' h).1
          | false => exact hsE _ _ hI.e (hb h)
        · have hkw : k.isWrt = false := by
            cases h : k.isWrt with
            | false => rfl
            | true =>
              have := hno K'.length (by rw [hwi]; exact h)
              rw [getD_set hisz, if_pos rfl] at this; cases this
          refine hsC _ _ (hI.c fun s hs => ?_) (hb hkw)
          have := hno s hs
          rw [getD_set hisz] at this
          split at this
          · cases this
          · exact this
        · rw [getD_set hisz] at hj ⊢
          split
          · rfl
          · split at hj
            · rename_i e; subst e; exact hAl m hm
            · exact hI.cl j hj m hm
        · rw [getD_set hisz] at hl
          split at hl
          · rename_i e; subst e
            rw [hat] at hk'; cases hk'
            exact hfr0
          · rename_i e
            obtain ⟨pre', k2, K2, hKe2, hKl2, hat2⟩ := atR_split (K := K) (j := j) (atR_lt hk')
            have h2 := obs_at (hKe2 ▸ hO)
            rw [hk'] at hat2; cases hat2
            subst hKl2
            refine (h2.2.2 x _ (fun m hm => ?_)).1 (hI.g _ k' hk' hl)
            have hne : m ≠ K'.length := fun e2 => by
              rcases hm with rfl | hm
              · exact e e2
              · have := hI.cl _ hl _ hm
                rw [e2, hunf] at this; cases this
            exact (if_neg hne).symm
        · rw [getD_set hisz] at hl
          split at hl
          · rename_i e; subst e
            rw [hni] at hn
            exact ⟨_, (updX_self _ _ _).trans (hnew hn).1, (hnew hn).2⟩
          · rename_i e
            obtain ⟨B, h1, h2⟩ := hI.ns j hn hl
            exact ⟨B, (updX_ne _ _ e).trans h1, by omega⟩
        · rw [getD_set hisz] at hil hjl
          by_cases ei : i = K'.length
          · subst ei
            rw [if_neg (Ne.symm hij)] at hjl
            rw [hni] at hin'
            obtain ⟨B, h1, h2⟩ := hI.ns j hjn hjl
            rw [updX_self, updX_ne _ _ (Ne.symm hij), (hnew hin').1, h1]
            intro e
            injection e with e
            injection e with e
            injection e with e
            omega
          · rw [if_neg ei] at hil
            by_cases ej : j = K'.length
            · subst ej
              rw [hni] at hjn
              obtain ⟨B, h1, h2⟩ := hI.ns i hin' hil
              rw [updX_self, updX_ne _ _ ei, (hnew hjn).1, h1]
              intro e
              injection e with e
              injection e with e
              injection e with e
              omega
            · rw [if_neg ej] at hjl
              rw [updX_ne _ _ ei, updX_ne _ _ ej]
              exact hI.nd i j hin' hjn hil hjl hij
        · rw [getD_set hisz] at hl
          split at hl
          · rename_i e; subst e
            rw [hat] at hk'; cases hk'
            exact hf
          · rename_i e
            have hkw : k.isWrt = false := by
              cases h : k.isWrt with
              | false => rfl
              | true =>
                rcases hall K'.length (by unfold wrtAt; rw [hat]; exact h) (by rw [getD_set hisz, if_pos rfl]) with h1 | h1
                · exact absurd h1.symm e
                · rw [hI.cl j hl _ h1] at hunf; cases hunf
            obtain ⟨pre', k2, K2, hKe2, hKl2, hat2⟩ := atR_split (K := K) (j := j) (atR_lt hk')
            have h2 := obs_at (hKe2 ▸ hO)
            rw [hk'] at hat2; cases hat2
            subst hKl2
            refine (h2.2.2 x _ (fun m hm => ?_)).2 w' (h2.2.1 _ _ _ (hI.f _ k' hk' hl fun s hw hls => hall s hw ?_) (hb hkw))
            · have hne : m ≠ K'.length := fun e2 => by
                rcases hm with rfl | hm
                · exact e e2
                · have := hI.cl _ hl _ hm
                  rw [e2, hunf] at this; cases this
              exact (if_neg hne).symm
            rw [getD_set hisz]
            split
            · rfl
            · exact hls
      unfold wpOp
      rw [ho]
      dsimp only
      have hcls : clsA C E k.lv w := by
        refine ⟨hI.e, fun hl => hI.c fun s hs => ?_⟩
        cases hls : listed.getD s false with
        | false => rfl
        | true =>
          have hsl : s < K.length := by
            rcases Nat.lt_or_ge s K.length with h | h
            · exact h
            · rw [wrtAt_ge h] at hs; cases hs
          have hsi : K'.length ≠ s := fun e => by rw [← e, hunf] at hls; cases hls
          rcases okK_spec hK hs (by omega) hin hsi with h | h | h
          · omega
          · rw [hI.cl s hls _ h] at hunf; cases hunf
          · omega
      have hD : DistR (A.getD K'.length []) K' x := fun i j hi hj hij hni hnj => hI.nd i j (by
        unfold newAt at hni ⊢; rw [hsuf i (hanc i hi).1]; exact hni) (by
        unfold newAt at hnj ⊢; rw [hsuf j (hanc j hj).1]; exact hnj) (hAl i hi) (hAl j hj) hij
      rcases hob x w hcls hF hD with ⟨hw, hadd⟩ | ⟨hw, l, hk⟩
      · rw [hwant, if_pos hw]
        exact .inl (addAt_wp hadd hex fun u w' ⟨h1, h2, h3, h4, h5, h6⟩ => hnext u w' h1 h2 h3 h4 h5 h6)
      · rw [hwant, if_neg (by rw [hw]; exact Bool.false_ne_true)]
        subst hk
        exact hnext undef w rfl trivial trivial (fun h => by cases h) (fun _ => hRl.refl _) fun h => by cases h
/-- the walk, shut -/
structure ShA (Rl : World → World → Prop) (P : Program) (ops : Array Oper) (A : List (List Nat)) (C E : World → Prop) (a0 : Act) (id : Nat) (Q : Exit → Act → World → Prop) (w0 : World) (K : List AK) (fr : (Nat → Value) → Act) (rest : List Oper) : Prop where
  go : RelOk Rl → Obs Rl P ops A C E a0 K → (∀ x, fr x = putsR ops a0 x (fun _ => true) K) → ops.toList.drop K.length = rest → (Code.region id ops true).wp P Q a0 w0
/-- A: who comes ahead of whom; C: the worlds till one writes; E: the worlds at all times -/
theorem add_region {id : Nat} {Q : Exit → Act → World → Prop} {w : World} {l : List Oper} (A : List (List Nat)) (C E : World → Prop) (h : ShA BelowR P l.toArray A C E a0 id Q w [] (fun _ => a0) l) : (Code.region id l.toArray true).wp P Q a0 w :=
  h.go belowOk trivial (fun _ => rfl) (by simp)
section
variable {Rl : World → World → Prop} {id : Nat} {Q : Exit → Act → World → Prop} {w0 : World} {K : List AK} {fr : (Nat → Value) → Act} {rest : List Oper} {o : Oper}
theorem drop_head {l : List Oper} {n : Nat} (h : l.drop n = o :: rest) : l[n]? = some o ∧ l.drop (n + 1) = rest := by
  have h1 : (l.drop n)[0]? = some o := by rw [h]; rfl
  rw [List.getElem?_drop] at h1
  refine ⟨by simpa using h1, ?_⟩
  have : (l.drop n).drop 1 = rest := by rw [h]; rfl
  rwa [List.drop_drop] at this
theorem add_step (k : AK) (hk : Stable Rl k) (hl : Local (A.getD K.length []) K.length k) (hob : ∀ x w, clsA C E k.lv w → FactsR (A.getD K.length []) k.weak x w false K → DistR (A.getD K.length []) K x →
      (Region.wanted o (yielded ops (fr x).tmps) = true ∧ addAt P o (fr x) w fun u w' => k.val u = u ∧ k.free (updX x K.length u) ∧ k.fact (updX x K.length u) w' ∧ (k.isWrt = true → E w' ∧ w.heap.size ≤ w'.heap.size) ∧ (k.isWrt = false → Rl w w') ∧ (k.isNew = true → u = .pointer (some ⟨w.heap.size, 0, none⟩) ∧ w.heap.size < w'.heap.size)) ∨ (Region.wanted o (yielded ops (fr x).tmps) = false ∧ ∃ l, k = .con l undef))
    (h : ShA Rl P ops A C E a0 id Q w0 (k :: K) (fun x => (fr x).put o.dst (k.val (x K.length))) rest) : ShA Rl P ops A C E a0 id Q w0 K fr (o :: rest) := by
  refine ⟨fun hRl hO hfr hd => ?_⟩
  obtain ⟨h1, h2⟩ := drop_head hd
  have h1' : ops[K.length]? = some o := by simpa using h1
  refine h.go hRl ⟨⟨⟨o, h1', fun x w hc hF hD => ?_⟩, hk, hl⟩, hO⟩ (fun x => ?_) (by rw [List.length_cons]; exact h2)
  · have := hob x w hc hF hD
    rwa [hfr x] at this
  · rw [hfr x, putsR, h1']
    rfl
theorem stable_con (Rl : World → World → Prop) (l : Nat) (v : Value) : Stable Rl (.con l v) := fun _ _ _ _ _ => trivial
theorem local_con (l : List Nat) (j : Nat) (b : Nat) (v : Value) : Local l j (.con b v) := fun _ _ _ => ⟨fun h => h, fun _ h => h⟩
/-- its guard passes it over -/
theorem a_skip (hw : ∀ x, Region.wanted o (yielded ops (fr x).tmps) = false) (h : ShA Rl P ops A C E a0 id Q w0 (.con 2 undef :: K) (fun x => (fr x).put o.dst undef) rest) : ShA Rl P ops A C E a0 id Q w0 K fr (o :: rest) :=
  add_step (.con 2 undef) (stable_con _ _ _) (local_con _ _ _ _) (fun x _ _ _ _ => .inr ⟨hw x, _, rfl⟩) h
/-- one value, in every world, till one writes -/
theorem a_con {v : Value} (hw : ∀ x, Region.wanted o (yielded ops (fr x).tmps) = true)
    (hv : ∀ x w R, C w → FactsR (A.getD K.length []) false x w false K → (∀ w', Rl w w' → R v w') → addAt P o (fr x) w R)
    (h : ShA Rl P ops A C E a0 id Q w0 (.con 0 v :: K) (fun x => (fr x).put o.dst v) rest) : ShA Rl P ops A C E a0 id Q w0 K fr (o :: rest) :=
  add_step (.con 0 v) (stable_con _ _ _) (local_con _ _ _ _) (fun x w hc hF hD => .inl ⟨hw x, hv x w _ (hc.2 rfl) hF fun _ hb => ⟨rfl, trivial, trivial, (fun h => by cases h), (fun _ => hb), fun h => by cases h⟩⟩) h
/-- one value, in every world, ahead of what writes or behind it -/
theorem a_late {v : Value} (hw : ∀ x, Region.wanted o (yielded ops (fr x).tmps) = true)
    (hv : ∀ x w R, E w → FactsR (A.getD K.length []) false x w false K → (∀ w', Rl w w' → R v w') → addAt P o (fr x) w R)
    (h : ShA Rl P ops A C E a0 id Q w0 (.con 1 v :: K) (fun x => (fr x).put o.dst v) rest) : ShA Rl P ops A C E a0 id Q w0 K fr (o :: rest) :=
  add_step (.con 1 v) (stable_con _ _ _) (local_con _ _ _ _) (fun x w hc hF hD => .inl ⟨hw x, hv x w _ (hc.1) hF fun _ hb => ⟨rfl, trivial, trivial, (fun h => by cases h), (fun _ => hb), fun h => by cases h⟩⟩) h
/-- one value, in every world, whenever -/
theorem a_weak {v : Value} (hw : ∀ x, Region.wanted o (yielded ops (fr x).tmps) = true)
    (hv : ∀ x w R, E w → FactsR (A.getD K.length []) true x w false K → (∀ w', Rl w w' → R v w') → addAt P o (fr x) w R)
    (h : ShA Rl P ops A C E a0 id Q w0 (.con 2 v :: K) (fun x => (fr x).put o.dst v) rest) : ShA Rl P ops A C E a0 id Q w0 K fr (o :: rest) :=
  add_step (.con 2 v) (stable_con _ _ _) (local_con _ _ _ _) (fun x w hc hF hD => .inl ⟨hw x, hv x w _ (hc.1) hF fun _ hb => ⟨rfl, trivial, trivial, (fun h => by cases h), (fun _ => hb), fun h => by cases h⟩⟩) h
/-- some value, of which T holds -/
theorem a_opq (T : Value → World → Prop) (hT : ∀ v w w', T v w → Rl w w' → T v w') (hw : ∀ x, Region.wanted o (yielded ops (fr x).tmps) = true)
    (hv : ∀ x w R, C w → FactsR (A.getD K.length []) false x w false K → (∀ u w', T u w' → Rl w w' → R u w') → addAt P o (fr x) w R)
    (h : ShA Rl P ops A C E a0 id Q w0 (.opq false 0 (fun _ => True) (fun x w => T (x K.length) w) :: K) (fun x => (fr x).put o.dst (x K.length)) rest) : ShA Rl P ops A C E a0 id Q w0 K fr (o :: rest) :=
  add_step (.opq false 0 (fun _ => True) (fun x w => T (x K.length) w)) (fun x w w' h hb => hT _ _ _ h hb) (fun x x' hx => ⟨fun h => h, fun w (h : T (x K.length) w) => by rw [hx _ (.inl rfl)] at h; exact h⟩) (fun x w hc hF hD => .inl ⟨hw x, hv x w _ (hc.2 rfl) hF fun u w' h1 h2 => ⟨rfl, trivial, by
    show T (updX x K.length _ K.length) _; rw [updX_self]; exact h1, (fun h => by cases h), (fun _ => h2), fun h => by cases h⟩⟩) h
/-- some value of which F holds together with what came ahead of it, whenever -/
theorem a_freX (F : (Nat → Value) → Prop) (hl : ∀ x x', (∀ m, m = K.length ∨ m ∈ A.getD K.length [] → x m = x' m) → F x → F x') (hw : ∀ x, Region.wanted o (yielded ops (fr x).tmps) = true)
    (hv : ∀ x w R, E w → FactsR (A.getD K.length []) true x w false K → (∀ u w', F (updX x K.length u) → Rl w w' → R u w') → addAt P o (fr x) w R)
    (h : ShA Rl P ops A C E a0 id Q w0 (.fre 2 F :: K) (fun x => (fr x).put o.dst (x K.length)) rest) : ShA Rl P ops A C E a0 id Q w0 K fr (o :: rest) :=
  add_step (.fre 2 F) (fun _ _ _ _ _ => trivial) (fun x x' hx => ⟨hl x x' hx, fun w h => h⟩) (fun x w hc hF hD => .inl ⟨hw x, hv x w _ hc.1 hF fun u w' h0 h2 => ⟨rfl, h0, trivial, (fun h => by cases h), (fun _ => h2), fun h => by cases h⟩⟩) h
/-- a new block -/
theorem a_new (T : Nat → World → Prop) (hT : ∀ B w w', T B w → Rl w w' → T B w') (hw : ∀ x, Region.wanted o (yielded ops (fr x).tmps) = true)
    (hv : ∀ x w R, C w → FactsR (A.getD K.length []) false x w false K → (∀ w', T w.heap.size w' → Rl w w' → w.heap.size < w'.heap.size → R (.pointer (some ⟨w.heap.size, 0, none⟩)) w') → addAt P o (fr x) w R)
    (h : ShA Rl P ops A C E a0 id Q w0 (.opq true 0 (fun x => ∃ B, x K.length = .pointer (some ⟨B, 0, none⟩)) (fun x w => ∃ B, x K.length = .pointer (some ⟨B, 0, none⟩) ∧ T B w) :: K) (fun x => (fr x).put o.dst (x K.length)) rest) : ShA Rl P ops A C E a0 id Q w0 K fr (o :: rest) :=
  add_step (.opq true 0 (fun x => ∃ B, x K.length = .pointer (some ⟨B, 0, none⟩)) (fun x w => ∃ B, x K.length = .pointer (some ⟨B, 0, none⟩) ∧ T B w)) (fun x w w' ⟨B, h, h1⟩ hb => ⟨B, h, hT _ _ _ h1 hb⟩) (fun x x' hx => ⟨fun ⟨B, h⟩ => ⟨B, by rw [← hx _ (.inl rfl)]; exact h⟩, fun w ⟨B, h, h1⟩ => ⟨B, by rw [← hx _ (.inl rfl)]; exact h, h1⟩⟩) (fun x w hc hF hD => .inl ⟨hw x, hv x w _ (hc.2 rfl) hF fun w' h1 h2 h3 => ⟨rfl, ⟨_, updX_self _ _ _⟩, ⟨_, updX_self _ _ _, h1⟩, (fun h => by cases h), (fun _ => h2), fun _ => ⟨rfl, h3⟩⟩⟩) h
/-- it writes, the first -/
theorem a_wrt (T : (Nat → Value) → World → Prop) (hT : ∀ x w w', T x w → Rl w w' → T x w') (hl : ∀ x x' w, (∀ m, m = K.length ∨ m ∈ A.getD K.length [] → x m = x' m) → T x w → T x' w) (hw : ∀ x, Region.wanted o (yielded ops (fr x).tmps) = true)
    (hv : ∀ x w R, C w → FactsR (A.getD K.length []) false x w false K → DistR (A.getD K.length []) K x → (∀ u w', T (updX x K.length u) w' → E w' → w.heap.size ≤ w'.heap.size → R u w') → addAt P o (fr x) w R)
    (h : ShA Rl P ops A C E a0 id Q w0 (.wrt 0 T :: K) (fun x => (fr x).put o.dst (x K.length)) rest) : ShA Rl P ops A C E a0 id Q w0 K fr (o :: rest) :=
  add_step (.wrt 0 T) hT (fun x x' hx => ⟨fun h => h, fun w => hl x x' w hx⟩) (fun x w hc hF hD => .inl ⟨hw x, hv x w _ (hc.2 rfl) hF hD fun u w' h1 h2 h3 => ⟨rfl, trivial, h1, (fun _ => ⟨h2, h3⟩), (fun h => by cases h), fun h => by cases h⟩⟩) h
/-- it writes, behind another -/
theorem a_wrt2 (T : (Nat → Value) → World → Prop) (hT : ∀ x w w', T x w → Rl w w' → T x w') (hl : ∀ x x' w, (∀ m, m = K.length ∨ m ∈ A.getD K.length [] → x m = x' m) → T x w → T x' w) (hw : ∀ x, Region.wanted o (yielded ops (fr x).tmps) = true)
    (hv : ∀ x w R, E w → FactsR (A.getD K.length []) false x w false K → DistR (A.getD K.length []) K x → (∀ u w', T (updX x K.length u) w' → E w' → w.heap.size ≤ w'.heap.size → R u w') → addAt P o (fr x) w R)
    (h : ShA Rl P ops A C E a0 id Q w0 (.wrt 1 T :: K) (fun x => (fr x).put o.dst (x K.length)) rest) : ShA Rl P ops A C E a0 id Q w0 K fr (o :: rest) :=
  add_step (.wrt 1 T) hT (fun x x' hx => ⟨fun h => h, fun w => hl x x' w hx⟩) (fun x w hc hF hD => .inl ⟨hw x, hv x w _ (hc.1) hF hD fun u w' h1 h2 h3 => ⟨rfl, trivial, h1, (fun _ => ⟨h2, h3⟩), (fun h => by cases h), fun h => by cases h⟩⟩) h
/-- the walk's end -/
theorem a_nil (hm : P.follows .mixedOrders = true) (hA : okA ops A = true) (hK : okK K.length A K = true) (hsC : ∀ w w', C w → Rl w w' → C w') (hsE : ∀ w w', E w → Rl w w' → E w') (hCE : ∀ w, C w → E w) (hC : C w0.drew)
    (hE : ∀ x w, E w → (K.any AK.isWrt = false → C w) → EndR x w false K → (∀ i j, newAt K i = true → newAt K j = true → i ≠ j → x i ≠ x j) → Q .normal (fr x) w) : ShA Rl P ops A C E a0 id Q w0 K fr [] := by
  refine ⟨fun hRl hO hfr hd => ?_⟩
  have hlen : ops.size ≤ K.length := by
    have := congrArg List.length hd
    simp at this; omega
  have hle : K.length ≤ ops.size := by
    cases K with
    | nil => exact Nat.zero_le _
    | cons k K =>
      obtain ⟨⟨⟨o, ho, -⟩, -⟩, -⟩ := hO
      rw [List.length_cons]
      exact (Array.getElem?_eq_some_iff.1 ho).1
  have hn : K.length = ops.size := by omega
  refine wp_region_any hm ?_
  have := any_of_add hRl (P := P) (ops := ops) (A := A) (C := C) (E := E) (a0 := a0) (Q := Q) (K := K) hA (by rw [← hn]; exact hK) hn hO hsC hsE (fun x w he hc hr hd => by rw [← hfr x]; exact hE x w he hc hr hd)
    ops.size (Array.replicate ops.size false) (fun _ => undef) { w0 with drawn := w0.drawn + 1 } ?_ (by simp) (by
      have := List.countP_le_length (l := List.range ops.size) (p := fun i => !(Array.replicate ops.size false).getD i false)
      simpa using this)
  · have e : putsR ops a0 (fun _ => undef) (fun j => (Array.replicate ops.size false).getD j false) K = a0 := by
      have hf : ∀ j, (Array.replicate ops.size false).getD j false = false := fun j => by
        simp [Array.getElem?_replicate]
        split <;> rfl
      clear this hfr hd hO hE hK hn hle hlen
      induction K with
      | nil => rfl
      | cons k K ih =>
        unfold putsR
        split
        · rw [hf]; exact ih
        · exact ih
    rwa [e] at this
  · have hf : ∀ j, (Array.replicate ops.size false).getD j false = false := fun j => by
      simp [Array.getElem?_replicate]
      split <;> rfl
    refine ⟨hCE _ hC, fun _ => hC, fun j hj => ?_, fun j k _ hl => ?_, fun j _ hl => ?_, fun i j _ _ hl => ?_, fun j k _ hl => ?_⟩
    · rw [hf] at hj; cases hj
    · rw [hf] at hl; cases hl
    · rw [hf] at hl; cases hl
    · rw [hf] at hl; cases hl
    · rw [hf] at hl; cases hl
end
end
end Go.Proofs.YthefknoicelhaaaGreatDoor

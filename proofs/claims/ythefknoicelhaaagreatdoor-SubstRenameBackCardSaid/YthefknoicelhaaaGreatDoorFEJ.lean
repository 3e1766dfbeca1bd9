/- A drawn region by one invariant of one's own over what has come up: operations may write, in whatever order. -/
import Derived.Test.YthefknoicelhaaaGreatDoorFLS
namespace Go.Proofs.YthefknoicelhaaaGreatDoor
open Go.RowKit

section
variable {P : Program} {ops : Array Oper} {A : List (List Nat)} {J : (Nat → Value) → (Nat → Bool) → World → Prop} {a0 : Act}
/-- what is asked of operation number K.length -/
def ObJ (P : Program) (ops : Array Oper) (A : List (List Nat)) (J : (Nat → Value) → (Nat → Bool) → World → Prop) (a0 : Act) (K : List AK) (k : AK) (o : Oper) : Prop :=
  ∀ x L w, J x L w → (∀ j, j ∈ A.getD K.length [] → L j = true) → L K.length = false → (∀ j, K.length ∈ A.getD j [] → L j = false) →
    (Region.wanted o (yielded ops (putsR ops a0 x (fun _ => true) K).tmps) = true ∧ addAt P o (putsR ops a0 x (fun _ => true) K) w fun u w' => k.val u = u ∧ J (updX x K.length u) (updS L K.length) w') ∨
    (Region.wanted o (yielded ops (putsR ops a0 x (fun _ => true) K).tmps) = false ∧ k.val undef = undef ∧ J (updX x K.length undef) (updS L K.length) w)
def ObsJ (P : Program) (ops : Array Oper) (A : List (List Nat)) (J : (Nat → Value) → (Nat → Bool) → World → Prop) (a0 : Act) : List AK → Prop
  | [] => True
  | k :: K => (∃ o, ops[K.length]? = some o ∧ ObJ P ops A J a0 K k o) ∧ ObsJ P ops A J a0 K
theorem obsJ_at {pre K : List AK} {k : AK} (h : ObsJ P ops A J a0 (pre ++ k :: K)) : ∃ o, ops[K.length]? = some o ∧ ObJ P ops A J a0 K k o := by
  induction pre with
  | nil => exact h.1
  | cons p pre ih => exact ih h.2
theorem any_of_J {Q : Exit → Act → World → Prop} {K : List AK} (hA : okA ops A = true) (hn : K.length = ops.size) (hO : ObsJ P ops A J a0 K)
    (hE : ∀ x L w, J x L w → (∀ j, j < K.length → L j = true) → Q .normal (putsR ops a0 x (fun _ => true) K) w) :
    ∀ (fuel : Nat) (listed : Array Bool) (x : Nat → Value) (w : World), (∀ j, listed.getD j false = true → ∀ m ∈ A.getD j [], listed.getD m false = true) → J x (fun j => listed.getD j false) w → listed.size = ops.size → (List.range ops.size).countP (fun i => !listed.getD i false) ≤ fuel →
      wpAny P .any ops Q fuel listed (putsR ops a0 x (fun j => listed.getD j false) K) w := by
  have hend : ∀ (listed : Array Bool) (x : Nat → Value) (w : World), J x (fun j => listed.getD j false) w → (∀ i, i < ops.size → listed.getD i false = true) → Q .normal (putsR ops a0 x (fun j => listed.getD j false) K) w := by
    intro listed x w hJ hall
    rw [putsR_congr (x' := x) (S' := fun _ => true) (fun _ _ => rfl) (fun j hj => hall j (by omega))]
    exact hE x _ w hJ fun j hj => hall j (by omega)
  intro fuel
  induction fuel with
  | zero =>
    intro listed x w _ hJ _ hc
    have hall : ∀ i, i < ops.size → listed.getD i false = true := by
      intro i hi
      have := List.countP_eq_zero.1 (Nat.le_zero.1 hc) i (List.mem_range.2 hi)
      simpa using this
    refine ⟨?_, hend listed x w hJ hall⟩
    cases hr : Region.ready .any ops listed with
    | nil => rfl
    | cons j l =>
      have hj : j ∈ Region.ready .any ops listed := by rw [hr]; simp
      obtain ⟨h0, o, ho, -⟩ := mem_ready.1 hj
      have := hall j (Array.getElem?_eq_some_iff.1 ho).1
      rw [(getD_tf h0).2] at this
      cases this
  | succ fuel ih =>
    intro listed x w hcl hJ hsz hc
    refine ⟨fun hr => hend listed x w hJ fun i => ?_, fun i hi => ?_⟩
    · induction i using Nat.strongRecOn with
      | ind i ihi =>
        intro hin
        obtain ⟨o, ho⟩ : ∃ o, ops[i]? = some o := ⟨ops[i], Array.getElem?_eq_getElem hin⟩
        cases hl : listed.getD i false with
        | true => rfl
        | false =>
          exfalso
          have : i ∈ Region.ready .any ops listed := mem_ready.2 ⟨by
            have : i < listed.size := by omega
            simpa [this] using hl, o, ho, fun e he hb => by
              have hlt := (okA_spec hA ho).2.1 e he hb
              exact ihi e.on hlt (by omega)⟩
          rw [hr] at this
          cases this
    · obtain ⟨hun, o, ho, haft⟩ := mem_ready.1 hi
      obtain ⟨hisz, hunf⟩ := getD_tf hun
      have hin : i < ops.size := (Array.getElem?_eq_some_iff.1 ho).1
      obtain ⟨hanc, -, hdst⟩ := okA_spec hA ho
      have hAl : ∀ j ∈ A.getD i [], listed.getD j false = true := by
        intro j hj
        obtain ⟨-, e, he, hb, hor⟩ := hanc j hj
        rcases hor with rfl | hor
        · exact haft e he hb
        · exact hcl e.on (haft e he hb) j hor
      obtain ⟨pre, k, K', hKe, hKl, -⟩ := atR_split (K := K) (j := i) (by omega)
      subst hKl
      obtain ⟨o', ho', hob⟩ := obsJ_at (hKe ▸ hO)
      obtain rfl : o = o' := Option.some.inj (ho.symm.trans ho')
      have hget : ∀ t, t ∈ o.looksAt ops → (putsR ops a0 x (fun j => listed.getD j false) K).tmps[t]? = (putsR ops a0 x (fun _ => true) K').tmps[t]? := by
        intro t ht
        rw [hKe, show pre ++ k :: K' = (pre ++ [k]) ++ K' by simp, putsR_pre (fun j hj hjl hS oj hoj hd => ?_)]
        · refine putsR_get fun j hj hne oj hoj hd => ?_
          have hlj : listed.getD j false = false := by
            cases h : listed.getD j false with
            | false => rfl
            | true => exact absurd h hne
          rcases (hdst j oj t (by omega) hoj hd).2 ht with h1 | h1
          · rw [hAl j h1] at hlj; cases hlj
          · have := ((okA_spec hA hoj).1 _ h1).1; omega
        · have hji : j ≠ K'.length := fun e => by rw [e, hunf] at hS; cases hS
          rcases (hdst j oj t hji hoj hd).2 ht with h1 | h1
          · have := (hanc j h1).1; omega
          · have := hcl j hS _ h1
            rw [hunf] at this; cases this
      have hsel : ∀ cs b, o.op ≠ .select cs b := fun cs b => Region.noSelect_spec (by simp only [okA, Bool.and_eq_true] at hA; exact hA.1) _ o cs b ho
      have hex : execOp (putsR ops a0 x (fun j => listed.getD j false) K).eval o = execOp (putsR ops a0 x (fun _ => true) K').eval o := execOp_congr o hsel fun y hy => by
        cases y with
        | tmp t =>
          have := hget t (List.mem_append_left _ (List.mem_filterMap.2 ⟨.tmp t, by simpa using hy, rfl⟩))
          show (putsR ops a0 x (fun j => listed.getD j false) K).tmps.getD t undef = (putsR ops a0 x (fun _ => true) K').tmps.getD t undef
          rw [Array.getD_eq_getD_getElem?, Array.getD_eq_getD_getElem? (xs := (putsR ops a0 x (fun _ => true) K').tmps), this]
        | _ => rfl
      have hwant : Region.wanted o (yielded ops (putsR ops a0 x (fun j => listed.getD j false) K).tmps) = Region.wanted o (yielded ops (putsR ops a0 x (fun _ => true) K').tmps) := by
        unfold Region.wanted
        cases hg : o.guard with
        | none => rfl
        | some gw =>
          obtain ⟨g, want⟩ := gw
          have hy : yielded ops (putsR ops a0 x (fun j => listed.getD j false) K).tmps g = yielded ops (putsR ops a0 x (fun _ => true) K').tmps g := by
            unfold yielded
            cases ht : (ops[g]?).bind (·.dst) with
            | none => rfl
            | some t =>
              have := hget t (by simp [Oper.looksAt, hg, ht])
              simp only [Option.bind_some, this]
          simp only [hy]
      have hcnt : (List.range ops.size).countP (fun j => !(listed.setIfInBounds K'.length true).getD j false) ≤ fuel := by
        have := countP_lt (l := List.range ops.size) (p := fun j => !listed.getD j false) (q := fun j => !(listed.setIfInBounds K'.length true).getD j false) (fun j hj => by
          rw [getD_set hisz] at hj
          split at hj
          · cases hj
          · exact hj) (i := K'.length) (List.mem_range.2 hin) (by rw [hunf]; rfl) (by rw [getD_set hisz, if_pos rfl]; rfl)
        omega
      have hnext : ∀ u w', k.val u = u → J (updX x K'.length u) (updS (fun j => listed.getD j false) K'.length) w' →
          wpAny P .any ops Q fuel (listed.setIfInBounds K'.length true) ((putsR ops a0 x (fun j => listed.getD j false) K).put o.dst u) w' := by
        intro u w' hv hj'
        have hfr : (putsR ops a0 x (fun j => listed.getD j false) K).put o.dst u = putsR ops a0 (updX x K'.length u) (fun j => (listed.setIfInBounds K'.length true).getD j false) K := by
          rw [hKe, putsR_insert ho hunf hv (fun j oj hj hoj d hd => (hdst j oj d hj hoj hd).1)]
          refine putsR_congr (fun _ _ => rfl) fun j _ => ?_
          rw [getD_set hisz]; rfl
        rw [hfr]
        refine ih _ _ _ (fun j hj m hm => ?_) ?_ (by simpa using hsz) hcnt
        · rw [getD_set hisz] at hj ⊢
          split
          · rfl
          · split at hj
            · rename_i e; subst e; exact hAl m hm
            · exact hcl j hj m hm
        · have e : (fun j => (listed.setIfInBounds K'.length true).getD j false) = updS (fun j => listed.getD j false) K'.length := by
            funext j
            rw [getD_set hisz]; rfl
          rw [e]; exact hj'
      unfold wpOp
      rw [ho]
      dsimp only
      rcases hob x _ w hJ hAl hunf (fun j hj => by
        cases h : listed.getD j false with
        | false => rfl
        | true => rw [hcl j h _ hj] at hunf; cases hunf) with ⟨hw, hadd⟩ | ⟨hw, hk, hj'⟩
      · rw [hwant, if_pos hw]
        exact .inl (addAt_wp hadd hex fun u w' ⟨h1, h2⟩ => hnext u w' h1 h2)
      · rw [hwant, if_neg (by rw [hw]; exact Bool.false_ne_true)]
        exact hnext undef w hk hj'
/-- the walk, shut -/
structure ShJ (P : Program) (ops : Array Oper) (A : List (List Nat)) (J : (Nat → Value) → (Nat → Bool) → World → Prop) (a0 : Act) (id : Nat) (Q : Exit → Act → World → Prop) (w0 : World) (K : List AK) (fr : (Nat → Value) → Act) (rest : List Oper) : Prop where
  go : ObsJ P ops A J a0 K → (∀ x, fr x = putsR ops a0 x (fun _ => true) K) → ops.toList.drop K.length = rest → (Code.region id ops true).wp P Q a0 w0
/-- A: who comes ahead of whom; J: what holds of the values, of what has come up, of the world -/
theorem inv_region {id : Nat} {Q : Exit → Act → World → Prop} {w : World} {l : List Oper} (A : List (List Nat)) (J : (Nat → Value) → (Nat → Bool) → World → Prop) (h : ShJ P l.toArray A J a0 id Q w [] (fun _ => a0) l) : (Code.region id l.toArray true).wp P Q a0 w :=
  h.go trivial (fun _ => rfl) (by simp)
variable {id : Nat} {Q : Exit → Act → World → Prop} {w0 : World} {K : List AK} {fr : (Nat → Value) → Act} {rest : List Oper} {o : Oper}
theorem j_step (k : AK) (hob : ∀ x L w, J x L w → (∀ j, j ∈ A.getD K.length [] → L j = true) → L K.length = false → (∀ j, K.length ∈ A.getD j [] → L j = false) →
      (Region.wanted o (yielded ops (fr x).tmps) = true ∧ addAt P o (fr x) w fun u w' => k.val u = u ∧ J (updX x K.length u) (updS L K.length) w') ∨ (Region.wanted o (yielded ops (fr x).tmps) = false ∧ k.val undef = undef ∧ J (updX x K.length undef) (updS L K.length) w))
    (h : ShJ P ops A J a0 id Q w0 (k :: K) (fun x => (fr x).put o.dst (k.val (x K.length))) rest) : ShJ P ops A J a0 id Q w0 K fr (o :: rest) := by
  refine ⟨fun hO hfr hd => ?_⟩
  obtain ⟨h1, h2⟩ := drop_head hd
  have h1' : ops[K.length]? = some o := by simpa using h1
  refine h.go ⟨⟨o, h1', fun x L w hJ h3 h4 h5 => ?_⟩, hO⟩ (fun x => ?_) (by rw [List.length_cons]; exact h2)
  · have := hob x L w hJ h3 h4 h5
    rwa [hfr x] at this
  · rw [hfr x, putsR, h1']
    rfl
/-- one value -/
theorem j_con {v : Value} (hw : ∀ x, Region.wanted o (yielded ops (fr x).tmps) = true)
    (hv : ∀ x L w R, J x L w → (∀ j, j ∈ A.getD K.length [] → L j = true) → L K.length = false → (∀ j, K.length ∈ A.getD j [] → L j = false) → (∀ w', J (updX x K.length v) (updS L K.length) w' → R v w') → addAt P o (fr x) w R)
    (h : ShJ P ops A J a0 id Q w0 (.con 0 v :: K) (fun x => (fr x).put o.dst v) rest) : ShJ P ops A J a0 id Q w0 K fr (o :: rest) :=
  j_step (.con 0 v) (fun x L w hJ h1 h2 h3 => .inl ⟨hw x, hv x L w _ hJ h1 h2 h3 fun _ hj => ⟨rfl, hj⟩⟩) h
/-- the walk's end -/
theorem j_nil (hm : P.follows .mixedOrders = true) (hA : okA ops A = true) (hC : J (fun _ => undef) (fun _ => false) w0.drew)
    (hE : ∀ x L w, J x L w → (∀ j, j < K.length → L j = true) → Q .normal (fr x) w) : ShJ P ops A J a0 id Q w0 K fr [] := by
  refine ⟨fun hO hfr hd => ?_⟩
  have hlen : ops.size ≤ K.length := by
    have := congrArg List.length hd
    simp at this; omega
  have hle : K.length ≤ ops.size := by
    cases K with
    | nil => exact Nat.zero_le _
    | cons k K =>
      obtain ⟨⟨o, ho, -⟩, -⟩ := hO
      rw [List.length_cons]
      exact (Array.getElem?_eq_some_iff.1 ho).1
  have hf : ∀ j, (Array.replicate ops.size false).getD j false = false := fun j => by
    simp [Array.getElem?_replicate]
    split <;> rfl
  refine wp_region_any hm ?_
  have := any_of_J (P := P) (ops := ops) (A := A) (J := J) (a0 := a0) (Q := Q) (K := K) hA (by omega) hO (fun x L w hJ hl => by rw [← hfr x]; exact hE x L w hJ hl)
    ops.size (Array.replicate ops.size false) (fun _ => undef) { w0 with drawn := w0.drawn + 1 } (fun j hj => by rw [hf] at hj; cases hj) (by
      rw [show (fun j => (Array.replicate ops.size false).getD j false) = fun _ => false from funext hf]
      exact hC) (by simp) (by
      have := List.countP_le_length (l := List.range ops.size) (p := fun i => !(Array.replicate ops.size false).getD i false)
      simpa using this)
  have e : putsR ops a0 (fun _ => undef) (fun j => (Array.replicate ops.size false).getD j false) K = a0 := by
    clear this hfr hd hO hE hlen hle
    induction K with
    | nil => rfl
    | cons k K ih =>
      unfold putsR
      split
      · rw [hf]; exact ih
      · exact ih
  rwa [e] at this
end
end Go.Proofs.YthefknoicelhaaaGreatDoor

/- The ends of a valid list of items, and what follows one another: in plain words. -/
import Derived.Test.YtmmohhaolgblkaaDoorAJ
namespace Go.Proofs.YtmmohhaolgblkaaDoor
open Go.RowKit

/-- 'El': the index behind each item of 'its', which begins at index a; c: how many items are no others' elements -/
inductive Lay : Nat → Nat → List It → List Nat → Nat → Prop
  | nil (d a : Nat) : Lay d a [] [] 0
  | leaf {d a : Nat} {x : It} {r : List It} {Er : List Nat} {c : Nat} (hk : x.kids = 0) (h : Lay d (a + 1) r Er c) : Lay d a (x :: r) ((a + 1) :: Er) (c + 1)
  | list {d a : Nat} {x : It} {sub r : List It} {Es Er : List Nat} {k c : Nat} (hk : x.kids = k) (hs : Lay d (a + 1) sub Es k) (h : Lay (d + 1) (a + 1 + sub.length) r Er c) : Lay (d + 1) a (x :: (sub ++ r)) ((a + 1 + sub.length) :: (Es ++ Er)) (c + 1)
theorem Lay.len {d a : Nat} {its : List It} {El : List Nat} {c : Nat} (h : Lay d a its El c) : El.length = its.length := by
  induction h with
  | nil => rfl
  | leaf _ _ ih => simp [ih]
  | list _ _ _ ih1 ih2 => simp [ih1, ih2]
theorem Lay.few {d a : Nat} {its : List It} {El : List Nat} {c : Nat} (h : Lay d a its El c) : c ≤ its.length := by
  induction h with
  | nil => simp
  | leaf _ _ ih => simp; exact ih
  | list _ _ _ ih1 ih2 => simp; omega

theorem drop_head {A : List Nat} {j x : Nat} {l : List Nat} (h : A.drop j = x :: l) : A.getD j 0 = x ∧ A.drop (j + 1) = l := by
  have h1 : A[j]? = some x := by
    have := congrArg (fun l => l[0]?) h
    simpa using this
  refine ⟨by rw [List.getD_eq_getElem?_getD, h1]; rfl, ?_⟩
  have := congrArg (List.drop 1) h
  rwa [List.drop_drop] at this

theorem Lay.steps {d a : Nat} {its : List It} {El : List Nat} {c : Nat} (h : Lay d a its El c) : ∀ (n base : Nat) (A post : List Nat), base ≤ a → a + its.length ≤ n → A.drop (a - base) = El ++ post → stepsE n base A c a = some (a + its.length) := by
  induction h with
  | nil d a => intro n base A post _ _ _; rfl
  | @leaf d a x r Er c hk h ih =>
    intro n base A post hb hn hA
    obtain ⟨h1, h2⟩ := drop_head hA
    simp only [List.length_cons] at hn ⊢
    simp only [stepsE]
    rw [if_neg (by omega), h1, ih n base A post (by omega) (by omega) (by rw [show a + 1 - base = a - base + 1 by omega]; exact h2)]
    congr 1; omega
  | @list d a x sub r Es Er k c hk hs h ih1 ih2 =>
    intro n base A post hb hn hA
    obtain ⟨h1, h2⟩ := drop_head hA
    simp only [List.length_cons, List.length_append] at hn ⊢
    have hl := hs.len
    simp only [stepsE]
    rw [if_neg (by omega), h1, ih2 n base A post (by omega) (by omega) ?_]
    · congr 1; omega
    · have := congrArg (List.drop sub.length) (h2.trans (List.append_assoc Es Er post))
      rw [List.drop_drop, ← hl, List.drop_left] at this
      rw [show a + 1 + sub.length - base = a - base + 1 + Es.length by omega]
      exact this

theorem For.lay {d : Nat} {its : List It} {ts : List (List UInt8)} (h : For d its ts) : ∀ (n : Nat) (rest : List Int) (Er : List Nat), endsF n rest = some Er → its.length + rest.length ≤ n →
    ∃ El, endsF n (its.map It.kids ++ rest) = some (El ++ Er) ∧ Lay d (n - rest.length - its.length) its El ts.length := by
  induction h with
  | nil d => intro n rest Er he hn; exact ⟨[], he, .nil _ _⟩
  | @leaf d kind pos text its ts hk h ih =>
    intro n rest Er he hn
    simp only [List.length_cons] at hn
    obtain ⟨El, h1, h2⟩ := ih n rest Er he (by omega)
    have hl : (its.map It.kids ++ rest).length = its.length + rest.length := by simp
    refine ⟨(n - (its.length + rest.length)) :: El, ?_, ?_⟩
    · simp only [List.map_cons, List.cons_append, endsF]
      rw [h1]
      simp only
      rw [if_neg (by omega), hl]
      rfl
    · have e : n - rest.length - (its.length + 1) + 1 = n - rest.length - its.length := by omega
      have := Lay.leaf (a := n - rest.length - (its.length + 1)) (x := ⟨kind, text, 0, pos⟩) rfl (by rw [e]; exact h2)
      rw [e] at this
      rw [List.length_cons, List.length_cons, show n - (its.length + rest.length) = n - rest.length - its.length by omega]
      exact this
  | @list d pos sub its us ts hs h ih1 ih2 =>
    intro n rest Er he hn
    simp only [List.length_cons, List.length_append] at hn
    obtain ⟨El, h1, h2⟩ := ih2 n rest Er he (by omega)
    have hl : (its.map It.kids ++ rest).length = its.length + rest.length := by simp
    obtain ⟨Es, h3, h4⟩ := ih1 n (its.map It.kids ++ rest) (El ++ Er) h1 (by rw [hl]; omega)
    rw [hl] at h4
    have hl2 : (sub.map It.kids ++ (its.map It.kids ++ rest)).length = sub.length + (its.length + rest.length) := by simp
    have hfew := h4.few
    have hst := h4.steps n (n - (sub.length + (its.length + rest.length))) (Es ++ (El ++ Er)) (El ++ Er) (by omega) (by omega) (by rw [show n - (its.length + rest.length) - sub.length - (n - (sub.length + (its.length + rest.length))) = 0 by omega]; rfl)
    refine ⟨(n - (its.length + rest.length)) :: (Es ++ El), ?_, ?_⟩
    · simp only [List.map_cons, List.map_append, List.cons_append, List.append_assoc, endsF]
      rw [h3]
      simp only
      rw [if_neg (by omega), hl2]
      rw [show n - (its.length + rest.length) - sub.length = n - (sub.length + (its.length + rest.length)) by omega] at hst
      rw [Int.toNat_natCast, hst]
      simp only
      congr 2
      omega
    · have e1 : n - rest.length - (sub.length + its.length + 1) + 1 = n - (its.length + rest.length) - sub.length := by omega
      have e2 : n - rest.length - (sub.length + its.length + 1) + 1 + sub.length = n - rest.length - its.length := by omega
      have := Lay.list (a := n - rest.length - (sub.length + its.length + 1)) (x := ⟨5, ⟨#[]⟩, us.length, pos⟩) rfl (by rw [e1]; exact h4) (by rw [e2]; exact h2)
      rw [e2] at this
      rw [List.length_cons, List.length_cons, List.length_append, show n - (its.length + rest.length) = n - rest.length - its.length by omega]
      exact this

theorem popE_popE (i k : Nat) (op : List Nat) (h : i ≤ k) : popE k (popE i op) = popE k op := by
  unfold popE
  rw [List.reverse_reverse]
  congr 1
  induction op.reverse with
  | nil => rfl
  | cons x l ih =>
    by_cases hx : x ≤ i
    · rw [List.dropWhile_cons_of_pos (by simpa using hx), ih, List.dropWhile_cons_of_pos (by simp; omega)]
    · rw [List.dropWhile_cons_of_neg (by simpa using hx)]
theorem popE_len (i : Nat) (op : List Nat) : (popE i op).length ≤ op.length := by
  unfold popE
  rw [List.length_reverse]
  have := (List.dropWhile_suffix (l := op.reverse) (fun x => decide (x ≤ i))).sublist.length_le
  rwa [List.length_reverse] at this
theorem popE_mem (i : Nat) (op : List Nat) (x : Nat) (h : x ∈ popE i op) : x ∈ op := by
  unfold popE at h
  rw [List.mem_reverse] at h
  have := (List.dropWhile_suffix (l := op.reverse) (fun x => decide (x ≤ i))).sublist.subset h
  rwa [List.mem_reverse] at this

theorem Lay.height {d a c : Nat} {its : List It} {El : List Nat} (h : Lay d a its El c) : ∀ (op0 op : List Nat) (best : Nat) (rest : List Nat), popE a op0 = op → (∀ x ∈ op, a + its.length ≤ x) →
    ∃ op1 best1, heightF a (El ++ rest) op0 best = heightF (a + its.length) rest op1 best1 ∧ (∀ k, a + its.length ≤ k → popE k op1 = popE k op) ∧ best1 ≤ max best (op.length + d + 1) := by
  induction h with
  | nil d a =>
    intro op0 op best rest hp hop
    exact ⟨op0, best, rfl, fun k hk => by rw [← hp, popE_popE a k _ (by simpa using hk)], Nat.le_max_left _ _⟩
  | @leaf d a x r Er c hk h ih =>
    intro op0 op best rest hp hop
    simp only [List.length_cons] at hop ⊢
    have hpl := popE_len (a + 1) op
    obtain ⟨op1, best1, h1, h2, h3⟩ := ih (op ++ [a + 1]) (popE (a + 1) op) (max best (op.length + 1)) rest (popE_pop (a + 1) op (a + 1) (Nat.le_refl _)) (fun x hx => by have := hop x (popE_mem _ _ _ hx); omega)
    refine ⟨op1, best1, ?_, fun k hk => ?_, by omega⟩
    · simp only [List.cons_append, heightF]
      rw [hp, h1]
      congr 1; omega
    · rw [h2 k (by omega), popE_popE _ _ _ (by omega)]
  | @list d a x sub r Es Er k c hk hs h ih1 ih2 =>
    intro op0 op best rest hp hop
    simp only [List.length_cons, List.length_append] at hop ⊢
    have hpush : ∃ op', popE (a + 1) (op ++ [a + 1 + sub.length]) = op' ∧ op'.length ≤ op.length + 1 ∧ (∀ x ∈ op', a + 1 + sub.length ≤ x) ∧ ∀ k, a + 1 + sub.length ≤ k → popE k op' = popE k op := by
      refine ⟨_, rfl, ?_, fun x hx => ?_, fun k hk => ?_⟩
      · have := popE_len (a + 1) (op ++ [a + 1 + sub.length]); rw [List.length_append] at this; simpa using this
      · have := popE_mem _ _ _ hx
        rw [List.mem_append, List.mem_singleton] at this
        rcases this with h | h
        · have := hop x h; omega
        · omega
      · rw [popE_popE _ _ _ (by omega), popE_pop k op _ hk]
    obtain ⟨op', hp', hl', hm', hk'⟩ := hpush
    obtain ⟨op1, best1, h1, h2, h3⟩ := ih1 (op ++ [a + 1 + sub.length]) op' (max best (op.length + 1)) (Er ++ rest) hp' hm'
    have hpl := popE_len (a + 1 + sub.length) op
    obtain ⟨op2, best2, g1, g2, g3⟩ := ih2 op1 (popE (a + 1 + sub.length) op) best1 rest (by rw [h2 _ (Nat.le_refl _), hk' _ (Nat.le_refl _)]) (fun x hx => by have := hop x (popE_mem _ _ _ hx); omega)
    refine ⟨op2, best2, ?_, fun k hk => ?_, by omega⟩
    · simp only [List.cons_append, List.append_assoc, heightF]
      rw [hp, h1, g1]
      congr 1; omega
    · rw [g2 k (by omega), popE_popE _ _ _ (by omega)]

theorem leafOk_permitted {kind pos : Int} {text : ByteArray} (h : leafOk kind text.data.toList = true) : permittedF ⟨kind, text, 0, pos⟩ = true := by
  unfold leafOk at h
  simp only [Bool.or_eq_true, Bool.and_eq_true, beq_iff_eq] at h
  unfold permittedF
  simp only
  rcases h with ⟨rfl, h⟩ | ⟨⟨hk, h1⟩, h2⟩
  · rw [if_neg (by decide), if_pos rfl]; simp only [Bool.and_eq_true]; exact ⟨h, rfl⟩
  · have e5 : ¬ kind = 5 := by omega
    have e4 : ¬ kind = 4 := by omega
    rw [if_neg e5, if_neg e4, if_pos (by omega), h1, h2]; simp
theorem For.permitted {d : Nat} {its : List It} {ts : List (List UInt8)} (h : For d its ts) : its.all permittedF = true := by
  induction h with
  | nil => rfl
  | leaf hk _ ih => rw [List.all_cons, leafOk_permitted hk, ih]; rfl
  | list _ _ ih1 ih2 => rw [List.all_cons, List.all_append, ih1, ih2]; rfl
/-- what 'check' finds of a valid list -/
theorem For.check {d : Nat} {its : List It} {ts : List (List UInt8)} (h : For d its ts) (hd : d ≤ 256) : ∃ El, checkF its = some El ∧ Lay d 0 its El ts.length ∧ heightF 0 El [] 0 ≤ 257 := by
  obtain ⟨El, h1, h2⟩ := h.lay its.length [] [] rfl (by simp)
  rw [List.append_nil, List.append_nil] at h1
  rw [List.length_nil, Nat.sub_zero, Nat.sub_self] at h2
  refine ⟨El, ?_, h2, ?_⟩
  · unfold checkF; rw [h.permitted, if_pos rfl]; exact h1
  · obtain ⟨op1, best1, g1, _, g3⟩ := h2.height [] [] 0 [] rfl (by simp)
    rw [List.append_nil] at g1
    rw [g1]
    simp only [heightF, List.length_nil] at g3 ⊢
    omega
end Go.Proofs.YtmmohhaolgblkaaDoor

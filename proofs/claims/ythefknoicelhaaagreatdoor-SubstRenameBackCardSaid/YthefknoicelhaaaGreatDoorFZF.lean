/- Fresh names (plain): the candidates differ, so that one of them is free; each is a name. -/
import Derived.Test.YthefknoicelhaaaGreatDoorFTB
namespace Go.Proofs.YthefknoicelhaaaGreatDoor
open Go.RowKit Nmx

/-- '!' and the digits of k -/
def tailF (k : Nat) : List UInt8 := 33 :: decN k
/-- the k-th name that is tried -/
def candF (b : List UInt8) (k : Nat) : List UInt8 := b.take (min b.length (40 - (tailF k).length)) ++ tailF k
theorem bang_dec (n : Nat) : ∀ x ∈ decN n, (x != 33) = true := decN_no n 33 (by decide)
theorem take_bang (xs : List UInt8) (n : Nat) : ((xs ++ 33 :: decN n).reverse.takeWhile (· != 33)) = (decN n).reverse := by
  rw [List.reverse_append, List.reverse_cons, List.append_assoc]
  have h : ∀ x ∈ (decN n).reverse, (x != 33) = true := fun x hx => bang_dec n x (List.mem_reverse.1 hx)
  rw [List.takeWhile_append_of_pos h]
  simp
theorem cand_inj {b : List UInt8} {j k : Nat} (h : candF b j = candF b k) : j = k := by
  unfold candF tailF at h
  have h1 := take_bang (b.take (min b.length (40 - (33 :: decN j).length))) j
  rw [h, take_bang] at h1
  exact (decN_inj (List.reverse_inj.1 h1)).symm
theorem nodup_le : ∀ {l m : List (List UInt8)}, l.Nodup → (∀ x ∈ l, x ∈ m) → l.length ≤ m.length
  | [], _, _, _ => Nat.zero_le _
  | x :: l, m, hn, hs => by
    have hx := hs x (by simp)
    obtain ⟨h1, h2⟩ := List.nodup_cons.1 hn
    have := nodup_le (l := l) (m := m.erase x) h2 (fun y hy => (List.mem_erase_of_ne (fun e => h1 (by rw [← e]; exact hy))).2 (hs y (by simp [hy])))
    rw [List.length_erase_of_mem hx] at this
    have hp := List.length_pos_of_mem hx
    rw [List.length_cons]; omega
/-- one of as many candidates as there are names and one more is free -/
theorem cand_free (b : List UInt8) (used : List (List UInt8)) : ∃ k, 1 ≤ k ∧ k ≤ used.length + 1 ∧ candF b k ∉ used := by
  refine Classical.byContradiction fun hno => ?_
  have hall : ∀ k, 1 ≤ k → k ≤ used.length + 1 → candF b k ∈ used := fun k h1 h2 => Classical.byContradiction fun h => hno ⟨k, h1, h2, h⟩
  have hn : ((List.range (used.length + 1)).map fun i => candF b (i + 1)).Nodup := by
    refine List.Pairwise.map _ (fun i j hij => ?_) List.nodup_range
    exact fun e => hij (by have := cand_inj e; omega)
  have := nodup_le hn (m := used) (fun x hx => by
    obtain ⟨i, hi, rfl⟩ := List.mem_map.1 hx
    exact hall _ (by omega) (by have := List.mem_range.1 hi; omega))
  rw [List.length_map, List.length_range] at this
  omega
/-- the first candidate from k on that is free, n tries at most -/
def freshK (used : List (List UInt8)) (b : List UInt8) : Nat → Nat → List UInt8
  | 0, k => candF b k
  | n + 1, k => if candF b k ∈ used then freshK used b n (k + 1) else candF b k
/-- what Fresh answers at a name -/
def freshF (b : List UInt8) (used : List (List UInt8)) : List UInt8 := if b ∈ used then freshK used b used.length 1 else b
theorem freshK_free {used : List (List UInt8)} {b : List UInt8} : ∀ (n k : Nat), (∃ j, k ≤ j ∧ j ≤ k + n ∧ candF b j ∉ used) → freshK used b n k ∉ used
  | 0, k, ⟨j, h1, h2, h3⟩ => by
    rw [show j = k by omega] at h3
    exact h3
  | n + 1, k, ⟨j, h1, h2, h3⟩ => by
    unfold freshK
    split
    · rename_i hin
      refine freshK_free n (k + 1) ⟨j, ?_, by omega, h3⟩
      rcases Nat.lt_or_ge k j with h | h
      · exact h
      · rw [show j = k by omega] at h3
        exact absurd hin h3
    · assumption
theorem fresh_free (b : List UInt8) (used : List (List UInt8)) : freshF b used ∉ used := by
  unfold freshF
  split
  · obtain ⟨k, h1, h2, h3⟩ := cand_free b used
    exact freshK_free _ _ ⟨k, h1, by omega, h3⟩
  · assumption
theorem freshK_form {used : List (List UInt8)} {b : List UInt8} : ∀ (n k : Nat), ∃ j, k ≤ j ∧ j ≤ k + n ∧ freshK used b n k = candF b j
  | 0, k => ⟨k, Nat.le_refl _, Nat.le_refl _, rfl⟩
  | n + 1, k => by
    unfold freshK
    split
    · obtain ⟨j, h1, h2, h3⟩ := freshK_form (used := used) (b := b) n (k + 1)
      exact ⟨j, by omega, by omega, h3⟩
    · exact ⟨k, Nat.le_refl _, by omega, rfl⟩
theorem res_bang : ∀ x ∈ resL, (33 : UInt8) ∉ x := by decide +kernel
theorem ok_digit (c : UInt8) (h : isD c = true) (i : Nat) (hi : 0 < i) : okC i (c.toNat : Int) = true := by
  unfold isD at h
  simp only [Bool.and_eq_true, decide_eq_true_eq] at h
  have h1 : (48 : Int) ≤ (c.toNat : Int) := by omega
  have h2 : (c.toNat : Int) ≤ 57 := by omega
  have h3 : (i == 0) = false := by simp; omega
  simp [okC, sndC, isDz, h1, h2, h3]
/-- a candidate is a name -/
theorem cand_name {b : List UInt8} {k : Nat} (hb : nameF b = true) (hk : (tailF k).length ≤ 39) : nameF (candF b k) = true := by
  unfold nameF at hb ⊢
  simp only [Bool.and_eq_true, decide_eq_true_eq, List.all_eq_true, List.mem_range] at hb ⊢
  obtain ⟨⟨⟨-, b2⟩, -⟩, b4⟩ := hb
  obtain ⟨m, hm⟩ : ∃ m, b.take (min b.length (40 - (tailF k).length)) = m := ⟨_, rfl⟩
  have hml : m.length ≤ 40 - (tailF k).length := by rw [← hm, List.length_take]; omega
  have hmg : ∀ i, i < m.length → m.getD i 0 = b.getD i 0 := fun i hi => by
    rw [← hm, List.length_take] at hi
    rw [← hm, List.getD_eq_getElem?_getD, List.getD_eq_getElem?_getD, List.getElem?_take_of_lt (by omega)]
  have hmb : m.length ≤ b.length := by rw [← hm, List.length_take]; omega
  unfold candF
  rw [hm]
  have ht : tailF k = 33 :: decN k := rfl
  refine ⟨⟨⟨?_, ?_⟩, ?_⟩, fun i hi => ?_⟩
  · rw [ht]; cases m <;> rfl
  · rw [List.length_append]; omega
  · unfold resF
    rw [Bool.not_eq_true', Bool.eq_false_iff]
    intro h
    obtain ⟨x, hx, he⟩ := List.any_eq_true.1 h
    refine res_bang x hx ?_
    rw [← eq_of_beq he, ht]
    simp
  · rw [List.length_append] at hi
    by_cases hlt : i < m.length
    · rw [List.getD_eq_getElem?_getD, List.getElem?_append_left hlt, ← List.getD_eq_getElem?_getD, hmg i hlt]
      exact b4 i (by omega)
    · rw [List.getD_eq_getElem?_getD, List.getElem?_append_right (by omega), ← List.getD_eq_getElem?_getD, ht]
      rw [ht, List.length_cons] at hi
      obtain ⟨j, hj⟩ : ∃ j, i - m.length = j := ⟨_, rfl⟩
      rw [hj]
      cases j with
      | zero => rw [List.getD_cons_zero]; simp [okC, fstC]
      | succ j =>
        rw [List.getD_cons_succ]
        have hjl : j < (decN k).length := by omega
        rw [List.getD_eq_getElem?_getD, List.getElem?_eq_getElem hjl]
        exact ok_digit _ (List.all_eq_true.1 (decN_digits k) _ (List.getElem_mem hjl)) i (by omega)
theorem tail_len {k n : Nat} (h : k < 10 ^ n) (hn : 0 < n) : (tailF k).length ≤ n + 1 := by
  unfold tailF
  rw [List.length_cons]
  have := decN_len_le hn h
  omega
/-- Fresh answers a name -/
theorem fresh_name {b : List UInt8} {used : List (List UInt8)} (hb : nameF b = true) (hu : used.length < 1000000000) : nameF (freshF b used) = true := by
  unfold freshF
  split
  · obtain ⟨j, h1, h2, h3⟩ := freshK_form (used := used) (b := b) used.length 1
    rw [h3]
    exact cand_name hb (Nat.le_trans (tail_len (n := 10) (by omega) (by omega)) (by omega))
  · exact hb
end Go.Proofs.YthefknoicelhaaaGreatDoor

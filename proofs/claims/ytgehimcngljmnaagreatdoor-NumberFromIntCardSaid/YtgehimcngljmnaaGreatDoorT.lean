/- Decimal texts as the library has them; rows of words that grow. -/
import Derived.Test.YtgehimcngljmnaaGreatDoorS
import Derived.Deep.AppendLies
namespace Go.Proofs.YtgehimcngljmnaaGreatDoor
open Go.RowKit Nmx

theorem decDigits_eq (n : Nat) : Lib.decDigits n = decN n := by
  induction n using Nat.strongRecOn with
  | _ n ih =>
    by_cases h : n < 10
    · rw [decN_small h, Lib.decDigits, dif_pos h]; rfl
    · rw [decN_big h, Lib.decDigits, dif_neg h, ih (n / 10) (by omega)]; rfl
theorem itoa_eq (z : Int) : Lib.itoa z = decI z := by
  unfold Lib.itoa decI
  rw [decDigits_eq, decDigits_eq]
  split
  · rfl
  · rename_i h; rw [show z.toNat = z.natAbs by omega]
theorem parseM_ok (M : Nat) (l : List UInt8) : ∀ acc, l.all isD = true → (acc + 1) * 10 ^ l.length ≤ 1000000000000000000 → (acc + 1) * 10 ^ l.length ≤ M + 1 → Lib.parseUintM M acc l = .ok (acc * 10 ^ l.length + dv l) := by
  induction l with
  | nil => intro acc _ _ _; simp [Lib.parseUintM, dv_nil]
  | cons c r ih =>
    intro acc h h1 h2
    rw [List.all_cons, Bool.and_eq_true] at h
    have hc := isD_iff.1 h.1
    rw [List.length_cons, Nat.pow_succ] at h1 h2
    have hp : 0 < 10 ^ r.length := Nat.pow_pos (by omega)
    have e1 : (acc + 1) * (10 ^ r.length * 10) = (acc * 10 + 10) * 10 ^ r.length := by grind
    rw [e1] at h1 h2
    have e2 : (acc * 10 + (c.toNat - 48) + 1) * 10 ^ r.length ≤ (acc * 10 + 10) * 10 ^ r.length := Nat.mul_le_mul_right _ (by omega)
    have e3 : (acc * 10 + 10) * 1 ≤ (acc * 10 + 10) * 10 ^ r.length := Nat.mul_le_mul_left _ hp
    rw [Lib.parseUintM, if_pos hc, if_neg (by omega), if_neg (by omega), ih _ h.2 (by omega) (by omega), dv_cons, List.length_cons, Nat.pow_succ]
    congr 1
    grind
theorem parseU_ok (B : Nat) (l : List UInt8) (h : l.all isD = true) (h0 : l ≠ []) (h1 : l.length ≤ 18) (h2 : 10 ^ l.length ≤ 2 ^ B) : Lib.parseUintB B l = .ok (dv l) := by
  unfold Lib.parseUintB
  rw [if_neg h0, parseM_ok _ _ _ h]
  · simp
  · have : 10 ^ l.length ≤ 10 ^ 18 := Nat.pow_le_pow_right (by omega) h1
    simpa using this
  · have : 0 < 2 ^ B := Nat.pow_pos (by omega)
    simp; omega
theorem parseI_ok (l : List UInt8) (h : l.all isD = true) (h0 : l ≠ []) (h1 : l.length ≤ 18) : Lib.parseIntB 64 l = .ok (dv l : Int) ∧ dv l < 1000000000000000000 := by
  have hp : 10 ^ l.length ≤ 10 ^ 18 := Nat.pow_le_pow_right (by omega) h1
  have hu := parseU_ok 64 l h h0 h1 (by omega)
  have hl := dv_lt l h
  refine ⟨?_, by omega⟩
  match l, h0 with
  | c :: r, _ =>
    rw [List.all_cons, Bool.and_eq_true] at h
    have hc := isD_iff.1 h.1
    unfold Lib.parseIntB
    simp only
    rw [if_neg (by omega), hu]
    simp only
    rw [if_neg (by omega), if_neg (by omega), if_neg (by omega)]

theorem ownsW_shape {w : World} {b : Nat} {v : Value} {l : List Nat} (h : w.ownsRow b 109 1 v l.length (u32s l)) (hn : 0 < l.length) : ∃ g cap, v = .slice (some ⟨g, 0, none⟩) l.length cap ∧ b ≤ g ∧ l.length ≤ cap := by
  obtain ⟨_, h | ⟨g, cap, cur, hv, hg, _, hc, _⟩⟩ := h
  · omega
  · exact ⟨g, cap, hv, hg, hc⟩
theorem ownsW_nil {w : World} {b : Nat} {v : Value} (h : w.ownsRow b 109 1 v 0 (u32s [])) : ∃ a c, v = .slice a 0 c := by
  obtain ⟨_, h | ⟨g, cap, cur, hv, _⟩⟩ := h
  · exact ⟨none, 0, h.1⟩
  · exact ⟨_, _, hv⟩
theorem ownsW_len {w : World} {b : Nat} {v : Value} {l : List Nat} (h : w.ownsRow b 109 1 v l.length (u32s l)) : ∃ a c, v = .slice a l.length c := by
  obtain ⟨_, h | ⟨g, cap, cur, hv, _⟩⟩ := h
  · rw [h.2, h.1]; exact ⟨none, 0, rfl⟩
  · exact ⟨_, _, hv⟩
theorem ownsW_set {w : World} {b g cap : Nat} {l : List Nat} (h : w.ownsRow b 109 1 (.slice (some ⟨g, 0, none⟩) l.length cap) l.length (u32s l)) (i x : Nat) :
    (w.setCell ⟨g, i, none⟩ (.int .u32 (x : Int))).ownsRow b 109 1 (.slice (some ⟨g, 0, none⟩) l.length cap) (l.set i x).length (u32s (l.set i x)) := by
  obtain ⟨hx, h | ⟨g', cap', cur, hv, hg, hh, hc, hm, hs, ht⟩⟩ := h
  · cases h.1
  · injection hv with e1 e2 e3
    injection e1 with e1
    injection e1 with e1
    subst e1 e3
    rw [List.length_set]
    refine ⟨by rw [u32s_len, List.length_set]; omega, .inr ⟨g, cap, cur.setIfInBounds i (.int .u32 (x : Int)), rfl, hg, heap_set hh i _, hc, hm, by simpa using hs, ?_⟩⟩
    rw [Array.toList_setIfInBounds, List.take_set, ht]
    simp [u32s, List.map_set]
theorem ownsW_at {w : World} {b g cap : Nat} {l : List Nat} (h : w.ownsRow b 109 1 (.slice (some ⟨g, 0, none⟩) l.length cap) l.length (u32s l)) (i : Nat) (hi : i < l.length) : w.cell? ⟨g, i, none⟩ = some (.int .u32 ((l.getD i 0 : Nat) : Int)) ∧ w.frozen? ⟨g, i, none⟩ = false := by
  refine ⟨by rw [h.cellAt i (by omega), u32s_at l i hi], ?_⟩
  obtain ⟨hx, h | ⟨g', cap', cur, hv, hg, hh, _⟩⟩ := h
  · cases h.1
  · injection hv with e1
    injection e1 with e1
    injection e1 with e1
    subst e1
    exact heap_fz hh i
theorem ownsW_ws {w : World} {b : Nat} {v : Value} {l : List Nat} (h : w.ownsRow b 109 1 v l.length (u32s l)) (hw : Ws l) : WV w v l := by
  have h' := h
  obtain ⟨hx, h | ⟨g, cap, cur, hv, hg, hh, hc, hm, _⟩⟩ := h
  · have hl : l = [] := List.length_eq_zero_iff.1 h.2
    subst hl
    rw [h.1]
    exact WV.nil w
  · subst hv
    exact ⟨_, g, 0, cap, rfl, hc, by unfold maxLen at hm; omega, fun _ => rfl, (fun h => by cases h), fun _ => ⟨_, _, hh⟩, fun i hi => by rw [Nat.zero_add]; exact (ownsW_at h' i hi).1, hw⟩
end Go.Proofs.YtgehimcngljmnaaGreatDoor

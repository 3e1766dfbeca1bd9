/- The statement on nested lists: what is parsed there. -/
import Derived.Test.YtmmohhaolgblkaaDoorS
namespace Go.Proofs.YtmmohhaolgblkaaDoor
open Go.RowKit
def modF (a b : Int) : Int := (a % 18446744073709551616) % b
set_option maxHeartbeats 400000 in
theorem mod_any (a b : Int) (w : World) (hb : 1 ≤ b) (hb' : b ≤ 1000000000000000000) :
    Calls Tryd.prog 16 #[.int .i64 a, .int .i64 b] w fun e w' => e = .returned (.int .i64 (modF a b)) ∧ w = w' := by
  have hwr : IntKind.u64.wrap a = a % 18446744073709551616 := by rw [IntKind.wrap_u64]
  have HW := Lib.hid hwr
  clear hwr
  go_enter Tryd.func16, Tryd.ntmps16
  go_wp2
  go_ret
  refine ⟨ret_int ?_, rfl⟩
  rw [HW.out, Int.tmod_eq_emod_of_nonneg (by omega)]
  unfold modF
  have h0 := Int.emod_nonneg (a % 18446744073709551616) (show b ≠ 0 by omega)
  have h3 := Int.emod_lt_of_pos (a % 18446744073709551616) (show 0 < b by omega)
  exact IntWalk.wrap64_in _ ⟨by omega, by omega⟩

def openIt (i : Nat) : It := ⟨5, ⟨#[]⟩, 0, i⟩
def chain : Nat → List It
  | 0 => []
  | i + 1 => bumpAt (chain i) (List.range i).getLast? ++ [openIt i]
theorem chain_len : ∀ i, (chain i).length = i := by
  intro i
  induction i with
  | zero => rfl
  | succ i ih => rw [chain, List.length_append, bump_len, ih]; rfl

theorem chain_valid : (List.range 6).all (fun d => validF (chain (252 + d))) = true := by decide +kernel

def parens (k : Nat) : ByteArray := ⟨(List.replicate k (40 : UInt8) ++ List.replicate k (41 : UInt8)).toArray⟩
theorem parens_data (k : Nat) : (parens k).data.toList = List.replicate k (40 : UInt8) ++ List.replicate k (41 : UInt8) := by simp [parens]
theorem parens_size (k : Nat) : (parens k).size = 2 * k := by rw [← len_data, parens_data]; simp; omega
theorem parens_open (k i : Nat) (h : i < k) (h' : i < (parens k).size) : (parens k)[i].toNat = 40 := by
  have := get_data (parens k) i h'
  rw [parens_data, List.getElem?_append_left (by simpa using h)] at this
  simp [h] at this
  rw [← this]; rfl
theorem parens_close (k i : Nat) (h : k ≤ i) (h' : i < (parens k).size) : (parens k)[i].toNat = 41 := by
  have := get_data (parens k) i h'
  have hs := parens_size k
  rw [parens_data, List.getElem?_append_right (by simpa using h)] at this
  rw [List.getElem?_replicate, if_pos (by simp; omega)] at this
  simp at this
  rw [← this]; rfl
theorem parens_skip (k p : Nat) : skipTo (parens k) p = p := by
  unfold skipTo
  by_cases h : p < (parens k).size
  · have hc : (parens k)[p].toNat = 40 ∨ (parens k)[p].toNat = 41 := by
      by_cases hk : p < k
      · exact .inl (parens_open k p hk h)
      · exact .inr (parens_close k p (by omega) h)
    rw [skip_step _ p false h]
    rcases hc with hc | hc <;> rw [hc] <;> simp
  · rw [drop_end _ p h]; rfl

theorem loop_open (k : Nat) (n i : Nat) (hi : i < k) (h : i ≤ 256) : parseLoop (parens k) (n + 1) ⟨i, chain i, List.range i⟩ = parseLoop (parens k) n ⟨i + 1, chain (i + 1), List.range (i + 1)⟩ := by
  have hs := parens_size k
  have hp : i < (parens k).size := by omega
  have hc := parens_open k i hi hp
  simp only [parseLoop]
  rw [if_pos hp, itemF_eq _ _ _ _ hp, hc, if_neg (by decide), if_pos rfl]
  unfold addTo
  simp only [List.length_range]
  rw [if_neg (by omega)]
  simp only [List.length_append, bump_len, chain_len, List.length_singleton, Nat.add_sub_cancel, parens_skip]
  rw [chain, List.range_succ]; rfl
theorem loop_deep (k n : Nat) (hk : 257 < k) : parseLoop (parens k) (n + 1) ⟨257, chain 257, List.range 257⟩ = .error (257, 6) := by
  have hs := parens_size k
  have hp : 257 < (parens k).size := by omega
  have hc := parens_open k 257 hk hp
  simp only [parseLoop]
  rw [if_pos hp, itemF_eq _ _ _ _ hp, hc, if_neg (by decide), if_pos rfl]
  unfold addTo
  simp only [List.length_range]
  rfl
theorem loop_opens (k : Nat) : ∀ (i n : Nat), i ≤ k → i ≤ 257 → parseLoop (parens k) (n + i) ⟨0, [], []⟩ = parseLoop (parens k) n ⟨i, chain i, List.range i⟩ := by
  intro i
  induction i with
  | zero => intro n _ _; rfl
  | succ i ih =>
    intro n h1 h2
    rw [show n + (i + 1) = (n + 1) + i by omega, ih (n + 1) (by omega) (by omega), loop_open k n i (by omega) (by omega)]
theorem loop_close (k n j : Nat) (its : List It) (hj : j < k) : parseLoop (parens k) (n + 1) ⟨k + j, its, List.range (k - j)⟩ = parseLoop (parens k) n ⟨k + (j + 1), its, List.range (k - (j + 1))⟩ := by
  have hs := parens_size k
  have hp : k + j < (parens k).size := by omega
  have hc := parens_close k (k + j) (by omega) hp
  simp only [parseLoop]
  rw [if_pos hp, itemF_eq _ _ _ _ hp, hc, if_pos rfl, if_neg (by simp; omega)]
  simp only [parens_skip]
  rw [show k - j = (k - (j + 1)) + 1 by omega, List.range_succ, List.dropLast_concat]
  rfl
theorem loop_closes (k : Nat) (its : List It) : ∀ (j n : Nat), j ≤ k → parseLoop (parens k) (n + j) ⟨k, its, List.range k⟩ = parseLoop (parens k) n ⟨k + j, its, List.range (k - j)⟩ := by
  intro j
  induction j with
  | zero => intro n _; rfl
  | succ j ih =>
    intro n h
    rw [show n + (j + 1) = (n + 1) + j by omega, ih (n + 1) (by omega), loop_close k n j its (by omega)]

theorem parens_shallow (k : Nat) (h : k ≤ 257) : parseT (parens k) = (chain k, 0, 0) := by
  have hs := parens_size k
  unfold parseT
  rw [if_neg (by omega)]
  unfold parseF
  rw [parens_skip, hs, show 2 * k + 1 = (1 + k) + k by omega, loop_opens k k (1 + k) (Nat.le_refl _) h, loop_closes k (chain k) k 1 (Nat.le_refl _)]
  simp only [parseLoop]
  rw [if_neg (by omega)]
  simp
theorem parens_deep (k : Nat) (h : 257 < k) (h' : k ≤ 1000) : parseT (parens k) = ([], 257, 6) := by
  have hs := parens_size k
  unfold parseT
  rw [if_neg (by omega)]
  unfold parseF
  rw [parens_skip, hs, show 2 * k + 1 = ((2 * k - 257) + 1) + 257 by omega, loop_opens k 257 _ (by omega) (Nat.le_refl _), loop_deep k _ h]
end Go.Proofs.YtmmohhaolgblkaaDoor

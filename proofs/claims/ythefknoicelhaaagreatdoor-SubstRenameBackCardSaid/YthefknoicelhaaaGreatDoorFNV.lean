/- The functions of package number at texts of numbers. -/
import Derived.Test.YthefknoicelhaaaGreatDoorFNS
import Derived.Test.YthefknoicelhaaaGreatDoorFRG
namespace Go.Proofs.YthefknoicelhaaaGreatDoor
open Go.RowKit Nmx

theorem decI_lt (z : Int) : z.natAbs < 10 ^ (decI z).length := Nat.lt_of_lt_of_le (dec_lt z.natAbs) (ten_le (decI_ge z))
theorem fit_text {l : List UInt8} {z : Int} (h : canonF l = some z) (hl : l.length ≤ 8000) : Fit z := by
  have h1 := decI_lt z
  rw [canonF_some h] at h1
  obtain ⟨k, hk⟩ : ∃ k, k = 889 := ⟨_, rfl⟩
  exact fit_of (k := k) (ten_words (d := l.length) (Nat.le_of_lt h1) (by omega)) (by omega)
theorem gcdAt_any {l : List UInt8} (hl : l.length ≤ 8000) : GcdAt l := fun n d h1 h2 h3 => by
  have l1 : (upto l).length ≤ l.length := by unfold upto; exact (List.takeWhile_sublist _).length_le
  have l2 : (behind l).length ≤ l.length := by
    unfold behind
    rw [List.length_drop]
    exact Nat.le_trans (Nat.sub_le _ _) (List.dropWhile_sublist _).length_le
  exact gcdOk_any (fit_text h1 (by omega)) (fit_text h2 (by omega))
end Go.Proofs.YthefknoicelhaaaGreatDoor
namespace Go.Proofs.YthefknoicelhaaaGreatDoor
open Go.RowKit Nmx

theorem grown_refl (w : World) (r : Option Nat) : w.grownBy w r := ⟨rfl, rfl, rfl, Nat.le_refl _, fun _ _ _ => rfl⟩
theorem grown_trans {w w1 w2 : World} {r : Option Nat} (h : w.grownBy w1 r) (h2 : w1.grownBy w2 r) : w.grownBy w2 r :=
  ⟨h2.os.trans h.os, h2.tape.trans h.tape, h2.output.trans h.output, Nat.le_trans h.size h2.size, fun k hk hr => (h2.block k (Nat.lt_of_lt_of_le hk h.size) hr).trans (h.block k hk hr)⟩
theorem grown_drewN {w w1 : World} {r : Option Nat} (h : w.grownBy w1 r) (n : Nat) : w.grownBy (w1.drewN n) r :=
  let b := below_drewN (Below.refl 0 w1) n
  ⟨b.os.trans h.os, b.tape.trans h.tape, b.output.trans h.output, Nat.le_trans h.size b.size, fun k hk hr => h.block k hk hr⟩
/-- the choices' block, and the numbers that are left to be used -/
structure Ch (C : Nat) (ao : Option Addr) (n cap : Nat) (w : World) : Prop where
  blk : ∃ i : Nat, i ≤ n ∧ w.heap[C]? = some (.cells #[.slice ao n cap, .int .i64 i] 57 (0, 0))
  few : n ≤ 400
  rd : n ≠ 0 → ∃ b off, ao = some ⟨b, off, none⟩ ∧ b < C ∧ ∀ t, t < n → ∃ x : Int, w.cell? ⟨b, off + t, none⟩ = some (.int .i64 x)
theorem Ch.lt {C : Nat} {ao : Option Addr} {n cap : Nat} {w : World} (h : Ch C ao n cap w) : C < w.heap.size := by
  obtain ⟨i, _, h⟩ := h.blk
  exact (Array.getElem?_eq_some_iff.1 h).1
theorem Ch.grown {C : Nat} {ao : Option Addr} {n cap : Nat} {w w' : World} {r : Option Nat} (h : Ch C ao n cap w) (hg : w.grownBy w' r) (hr : ∀ k, r = some k → C < k) : Ch C ao n cap w' := by
  have hlt := h.lt
  refine ⟨?_, h.few, fun hn => ?_⟩
  · obtain ⟨i, hi, hb⟩ := h.blk
    exact ⟨i, hi, (hg.block C hlt (fun e => by have := hr C e.symm; omega)).trans hb⟩
  · obtain ⟨b, off, e, hb, hx⟩ := h.rd hn
    refine ⟨b, off, e, hb, fun t ht => ?_⟩
    obtain ⟨x, hx⟩ := hx t ht
    exact ⟨x, hg.cell hx (fun e => by have := hr b e.symm; omega)⟩
theorem Ch.drewN {C : Nat} {ao : Option Addr} {n cap : Nat} {w : World} (h : Ch C ao n cap w) (k : Nat) : Ch C ao n cap (w.drewN k) := h.grown (grown_drewN (grown_refl _ none) k) (by simp)
theorem Ch.step {C : Nat} {ao : Option Addr} {n cap : Nat} {w : World} (h : Ch C ao n cap w) (i : Nat) (hi : i ≤ n) (q : Int) (hq : q = i) : Ch C ao n cap (w.setCell ⟨C, 1, none⟩ (.int .i64 q)) := by
  subst hq
  refine ⟨?_, h.few, fun hn => ?_⟩
  · obtain ⟨j, _, hb⟩ := h.blk
    refine ⟨i, hi, ?_⟩
    simp [World.setCell, Array.getElem?_modify, hb]
  · obtain ⟨b, off, e, hb, hx⟩ := h.rd hn
    refine ⟨b, off, e, hb, fun t ht => ?_⟩
    obtain ⟨x, hx⟩ := hx t ht
    refine ⟨x, ?_⟩
    rw [World.cell?_setCell_other _ _ _ _ (by simp; try omega)]; exact hx
theorem grown_below {w w' : World} (h : Below w.heap.size w w') : w.grownBy w' none := ⟨h.os, h.tape, h.output, h.size, fun k hk _ => h.block k hk⟩
theorem grown_more {w w' : World} {r : Option Nat} (h : w.grownBy w' none) : w.grownBy w' r := ⟨h.os, h.tape, h.output, h.size, fun k hk _ => h.block k hk (by simp)⟩
theorem Ch.call {C : Nat} {ao : Option Addr} {n cap : Nat} {w w' : World} (h : Ch C ao n cap w) (hb : Below w.heap.size w w') : Ch C ao n cap w' := h.grown (grown_below hb) (by simp)
end Go.Proofs.YthefknoicelhaaaGreatDoor
namespace Go.Proofs.YthefknoicelhaaaGreatDoor
open Go.RowKit Nmx

end Go.Proofs.YthefknoicelhaaaGreatDoor
/- Num, Den, Neg, Valid of number at texts of numbers. -/
namespace Go.Proofs.YthefknoicelhaaaGreatDoor
open Go.RowKit Nmx
end Go.Proofs.YthefknoicelhaaaGreatDoor

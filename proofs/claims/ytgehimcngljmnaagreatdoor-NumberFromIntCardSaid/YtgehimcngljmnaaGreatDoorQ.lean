/- Int.Sub and Gcd of package exact. -/
import Derived.Test.YtgehimcngljmnaaGreatDoorP
import Derived.Deep.RegionHeld3
namespace Go.Proofs.YtgehimcngljmnaaGreatDoor
open Go.RowKit Nmx

/-- two integers that lie in blocks g and h -/
def Two (w : World) (g h : Nat) (a0 a1 a2 b0 b1 b2 : Value) : Prop :=
  w.cell? ⟨g, 0, none⟩ = some a0 ∧ w.cell? ⟨g, 1, none⟩ = some a1 ∧ w.cell? ⟨g, 2, none⟩ = some a2 ∧ w.cell? ⟨h, 0, none⟩ = some b0 ∧ w.cell? ⟨h, 1, none⟩ = some b1 ∧ w.cell? ⟨h, 2, none⟩ = some b2
theorem Two.far {W w1 : World} {g h : Nat} {a0 a1 a2 b0 b1 b2 : Value} (hb : Below W.heap.size W w1) (hg : g < W.heap.size) (hh : h < W.heap.size) (k : Two W g h a0 a1 a2 b0 b1 b2) : Two w1 g h a0 a1 a2 b0 b1 b2 := by
  obtain ⟨k0, k1, k2, k3, k4, k5⟩ := k
  have f : ∀ b o, b < W.heap.size → w1.cell? ⟨b, o, none⟩ = W.cell? ⟨b, o, none⟩ := (bcell hb).1
  exact ⟨(f _ _ hg).trans k0, (f _ _ hg).trans k1, (f _ _ hg).trans k2, (f _ _ hh).trans k3, (f _ _ hh).trans k4, (f _ _ hh).trans k5⟩
theorem cell_set3 {w : World} {R g : Nat} (h : g ≠ R) (x y z : Value) (i : Nat) : (((w.setCell ⟨R, 0, none⟩ x).setCell ⟨R, 1, none⟩ y).setCell ⟨R, 2, none⟩ z).cell? ⟨g, i, none⟩ = w.cell? ⟨g, i, none⟩ := by
  apply World.cell?_of_block
  show (((w.setCell ⟨R, 0, none⟩ x).setCell ⟨R, 1, none⟩ y).setCell ⟨R, 2, none⟩ z).heap[g]? = w.heap[g]?
  rw [Below.heap_setCell _ _ _ _ h, Below.heap_setCell _ _ _ _ h, Below.heap_setCell _ _ _ _ h]
theorem Two.set {w : World} {g h R : Nat} {a0 a1 a2 b0 b1 b2 : Value} (k : Two w g h a0 a1 a2 b0 b1 b2) (hg : g ≠ R) (hh : h ≠ R) (x y z : Value) : Two (((w.setCell ⟨R, 0, none⟩ x).setCell ⟨R, 1, none⟩ y).setCell ⟨R, 2, none⟩ z) g h a0 a1 a2 b0 b1 b2 := by
  obtain ⟨k0, k1, k2, k3, k4, k5⟩ := k
  exact ⟨(cell_set3 hg _ _ _ 0).trans k0, (cell_set3 hg _ _ _ 1).trans k1, (cell_set3 hg _ _ _ 2).trans k2, (cell_set3 hh _ _ _ 0).trans k3, (cell_set3 hh _ _ _ 1).trans k4, (cell_set3 hh _ _ _ 2).trans k5⟩
theorem Res.cells {w : World} {R : Nat} (h : w.heap[R]? = some (.cells #[.int .i64 0, .bool false, .slice none 0 0] 58 (0, 0))) : w.cell? ⟨R, 0, none⟩ = some (.int .i64 0) ∧ w.cell? ⟨R, 1, none⟩ = some (.bool false) ∧ w.cell? ⟨R, 2, none⟩ = some (.slice none 0 0) ∧ w.frozen? ⟨R, 0, none⟩ = false ∧ w.frozen? ⟨R, 1, none⟩ = false ∧ w.frozen? ⟨R, 2, none⟩ = false :=
  ⟨heap_cell h 0, heap_cell h 1, heap_cell h 2, heap_fz h 0, heap_fz h 1, heap_fz h 2⟩
theorem fit_neg {z : Int} (h : Fit z) : Fit (-z) := by unfold Fit at *; rw [Int.natAbs_neg]; exact h

section
set_option maxRecDepth 100000
set_option maxHeartbeats 4000000
theorem sub_any (x y : Value) (za zb : Int) (w : World) (ha : IV w x za) (hb : IV w y zb) (fa : Fit za) (fb : Fit zb) : Calls Tryz.prog 139 #[x, y] w (GetsI (za - zb) w) := by
  have hng := fun (W' : World) (hB : Below w.heap.size w W') => neg_any y zb W' (hb.far hB)
  have hadd := fun (W' : World) (v : Value) (hB : Below w.heap.size w W') (hv : IV W' v (-zb)) => add_any x v za (-zb) W' (ha.far hB) hv fa (fit_neg fb)
  obtain ⟨s1, b1, a1, n1, c1, rfl⟩ := iv_form ha
  obtain ⟨s2, b2, a2, n2, c2, rfl⟩ := iv_form hb
  clear ha hb
  go_enter Tryz.func139, Tryz.ntmps139
  go_wp2
  go_region_held3 (fun w' => w'.cell? ⟨w.heap.size, 0, none⟩ = some (.int .i64 s1) ∧ w'.cell? ⟨w.heap.size, 1, none⟩ = some (.bool b1) ∧ w'.cell? ⟨w.heap.size, 2, none⟩ = some (.slice a1 n1 c1) ∧ w'.cell? ⟨w.heap.size + 1, 0, none⟩ = some (.int .i64 s2) ∧ w'.cell? ⟨w.heap.size + 1, 1, none⟩ = some (.bool b2) ∧ w'.cell? ⟨w.heap.size + 1, 2, none⟩ = some (.slice a2 n2 c2))
    (first | exact K1 | exact K2 | exact Two.set (h := w.heap.size + 1) K2 (Nat.ne_of_lt (by omega)) (Nat.ne_of_lt (by omega)) _ _ _ | go_keep)
    (first
      | (go_at_call 128
         refine (hng _ (below_drewN (below3 w _ _ _) _)).mono ?_
         rintro e w1 ⟨v1, rfl, hv1, hb1⟩
         have K1 : Two w1 w.heap.size (w.heap.size + 1) (.int .i64 s1) (.bool b1) (.slice a1 n1 c1) (.int .i64 s2) (.bool b2) (.slice a2 n2 c2) := Two.far hb1 (by simp; omega) (by simp) (by unfold Two; assumption)
         have hz1 : w.heap.size + 2 < w1.heap.size := by have := hb1.size; simp at this; omega
         have HR1 := Lib.hid ((hb1.block (w.heap.size + 2) (by simp)).trans (new_third w _ _ _))
         have HB1 := Lib.hid ((below_drewN (below3 w _ _ _) _).trans (hb1.mono (by simp; omega)))
         have HV1 := Lib.hid hv1
         obtain ⟨s3, b3, a3, n3, c3, rfl⟩ := iv_form hv1)
      | (go_at_call 136
         refine (hadd _ _ HB1.out HV1.out).mono ?_
         rintro e w2 ⟨v2, rfl, hv2, hb2⟩
         have K2 : Two w2 w.heap.size (w.heap.size + 1) (.int .i64 s1) (.bool b1) (.slice a1 n1 c1) (.int .i64 s2) (.bool b2) (.slice a2 n2 c2) := Two.far hb2 (by omega) (by omega) K1
         have HR2 := Lib.hid ((hb2.block (w.heap.size + 2) hz1).trans HR1.out)
         have HB2 := Lib.hid (HB1.out.trans (hb2.mono HB1.out.size))
         have HV2 := Lib.hid hv2
         obtain ⟨s4, b4, a4, n4, c4, rfl⟩ := iv_form hv2
         obtain ⟨r0, r1, r2, r3, r4, r5⟩ := Res.cells (R := w.heap.size + 1 + 1) HR2.out))
  go_wp2
  rw [Int.sub_eq_add_neg]
  exact end_int Tryz.results139 rfl rfl HR2.out HV2.out HB2.out (by omega)
end
end Go.Proofs.YtgehimcngljmnaaGreatDoor

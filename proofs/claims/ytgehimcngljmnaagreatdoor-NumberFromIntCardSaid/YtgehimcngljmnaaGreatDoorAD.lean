/- Int.String of small integers; number.FromInt but for the least int; Rat.Den. -/
import Derived.Test.YtgehimcngljmnaaGreatDoorAC
import Derived.Lib.AppendIntMem
namespace Go.Proofs.YtgehimcngljmnaaGreatDoor
open Go.RowKit Nmx

section
set_option maxRecDepth 100000
set_option maxHeartbeats 4000000
theorem intString_small (z : Int) (w : World) (h : Env w) (hz : Small z) : Calls Tryz.prog 73 #[smallV z] w fun e w' => e = .returned (.string ⟨(decI z).toArray⟩) ∧ Below w.heap.size w w' := by
  have kq0 := mag_eql0
  have hbl : ∀ o : Obj, Below w.heap.size w (w.alloc o) := fun o => (Below.refl _ _).alloc (Nat.le_refl _) _
  have hf := fun o => Tryz.strconv_FormatInt_10 z (by have := hz.1; omega) (by have := hz.2; omega) (w.alloc o) (h.far (hbl o)).tab
  rw [itoa_eq] at hf
  unfold smallV
  clear h hz
  go_enter Tryz.func73, Tryz.ntmps73
  go_wp2_with fail
  refine (hf _).mono ?_
  rintro e w1 ⟨rfl, k, os, hw⟩
  have HB : Hid (Below w.heap.size (w.alloc (.cells #[.int .i64 z, .bool false, .slice none 0 0] 58)) w1) := Lib.hid (by rw [hw]; exact Lib.below_grow w.heap.size _ (by simp) k os)
  clear hw
  go_wp2
  go_ret
  exact ⟨rfl, (hbl _).trans HB.out⟩
theorem numFromInt_small (z : Int) (w : World) (h : Env w) (hz : Small z) : Calls Tryz.prog 23 #[.int .i64 z] w fun e w' => e = .returned (.string ⟨(decI z).toArray⟩) ∧ Below w.heap.size w w' := by
  have hf := (fromInt64_any z w (by have := hz.1; omega) (by have := hz.2; omega))
  have HE := Lib.hid h
  have HZ := Lib.hid hz
  clear h hz
  go_enter Tryz.func23, Tryz.ntmps23
  go_wp2_with fail
  refine hf.mono ?_
  rintro e w1 ⟨v, rfl, hv, hb⟩
  have hv := iv_small hv HZ.out
  subst hv
  have hs := intString_small z w1 (HE.out.far hb) HZ.out
  have HB := Lib.hid hb
  clear hb hf
  go_wp2_with fail
  refine hs.mono ?_
  rintro e w2 ⟨rfl, hb2⟩
  go_wp2
  go_ret
  exact ⟨rfl, HB.out.trans (hb2.mono HB.out.size)⟩
end
end Go.Proofs.YtgehimcngljmnaaGreatDoor

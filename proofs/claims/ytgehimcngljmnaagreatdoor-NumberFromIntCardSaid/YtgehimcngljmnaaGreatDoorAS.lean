/- number.Parse at the chapter's example. -/
import Derived.Test.YtgehimcngljmnaaGreatDoorAR
namespace Go.Proofs.YtgehimcngljmnaaGreatDoor
open Go.RowKit Nmx

section
set_option maxRecDepth 100000
set_option maxHeartbeats 4000000
theorem numParse_ex (w : World) (h : Env w) : Calls Tryz.prog 21 #[.string ⟨#[48, 48, 55, 46, 53, 48]⟩] w fun e w' => e = .returned (.tuple #[.string ⟨#[49, 53, 47, 50]⟩, .bool true]) ∧ Below w.heap.size w w' := by
  obtain ⟨m, hm⟩ := h.len
  have hcut := Tryz.strings_Cut ⟨#[48, 48, 55, 46, 53, 48]⟩ ⟨#[46]⟩ m w (by decide) hm
  have hcs : Lib.cut (⟨#[48, 48, 55, 46, 53, 48]⟩ : ByteArray).data.toList (⟨#[46]⟩ : ByteArray).data.toList = ([48, 48, 55], [53, 48], true) := by decide +kernel
  rw [hcs] at hcut
  simp only at hcut
  have htp := fun W => Tryz.strings_TrimPrefix ⟨#[48, 48, 55]⟩ ⟨#[45]⟩ W
  have hts : Lib.trimPrefix (⟨#[48, 48, 55]⟩ : ByteArray).data.toList (⟨#[45]⟩ : ByteArray).data.toList = [48, 48, 55] := by decide +kernel
  rw [hts] at htp
  have hi1 : intF ((⟨#[48, 48, 55]⟩ : ByteArray) ++ ⟨#[53, 48]⟩).data.toList = some 750 := by decide +kernel
  have hi2 : intF ((⟨#[49]⟩ : ByteArray) ++ ⟨#[48, 48]⟩).data.toList = some 100 := by decide +kernel
  have hp1 := fun W => parseInt_any ((⟨#[48, 48, 55]⟩ : ByteArray) ++ ⟨#[53, 48]⟩) W (by decide +kernel)
  have hp2 := fun W => parseInt_any ((⟨#[49]⟩ : ByteArray) ++ ⟨#[48, 48]⟩) W (by decide +kernel)
  unfold ParseIntPost at hp1 hp2
  rw [hi1] at hp1
  rw [hi2] at hp2
  have hrp := fun W => Tryz.strings_Repeat ⟨#[48]⟩ 2 W (by omega) (by decide +kernel)
  have hrs : Lib.repeatL (⟨#[48]⟩ : ByteArray).data.toList 2 = [48, 48] := by decide +kernel
  rw [hrs] at hrp
  have hqt := quotOk_small (n := 750) (d := 100) (by unfold Small; omega) (by unfold Small; omega) (by omega)
  have HTX : Hid (textQ (Rat.divInt 750 100) = [49, 53, 47, 50]) := Lib.hid (ratF_iff.1 (by decide +kernel))
  have HSZ : Hid ((decI (Rat.divInt 750 100).num).length + (decI (Rat.divInt 750 100).den).length ≤ 1000000000) := Lib.hid (by
    have h1 : (Rat.divInt 750 100).num = 15 := by decide +kernel
    have h2 : (Rat.divInt 750 100).den = 2 := by decide +kernel
    rw [h1, h2]
    have := decN_len_le (n := 15) (k := 2) (by omega) (by omega)
    have := decN_len_le (n := 2) (k := 2) (by omega) (by omega)
    have e1 : decI 15 = decN 15 := decI_nat 15
    have e2 : decI ((2 : Nat) : Int) = decN 2 := decI_nat 2
    rw [e1, e2]; omega)
  have HE := Lib.hid h
  unfold QuotOk at hqt
  generalize Rat.divInt 750 100 = qq at *
  clear hi1 hi2 hrs hcs hts h
  go_enter Tryz.func21, Tryz.ntmps21
  go_wp2_with fail
  refine hcut.mono ?_
  rintro e w1 ⟨rfl, n1, rfl⟩
  go_wp2_with fail
  refine (htp _).mono ?_
  rintro e w2 ⟨rfl, hw2⟩
  rw [hw2]
  clear hw2
  go_wp2_with fail
  refine (hp1 _).mono ?_
  rintro e w3 ⟨v3, rfl, hv3, hb3⟩
  have HV3 := Lib.hid hv3
  obtain ⟨s3, b3, a3, n3, c3, rfl⟩ := iv_form hv3
  have HB3 := Lib.hid ((below_drewN (Below.refl w.heap.size w) n1).trans (hb3.mono (by simp)))
  clear hv3 hb3 hcut
  go_wp2_with fail
  have HX3 := Lib.hid (heap_alloc_new w3 (.cells #[.int .i64 s3, .bool b3, .slice a3 n3 c3] 58))
  have HA3 := Lib.hid (HB3.out.alloc HB3.out.size (.cells #[.int .i64 s3, .bool b3, .slice a3 n3 c3] 58))
  have HW3 := Lib.hid (HV3.out.alloc_of (.cells #[.int .i64 s3, .bool b3, .slice a3 n3 c3] 58))
  generalize w3.heap.size = g3 at *
  refine (hrp _).mono ?_
  rintro e w4 ⟨rfl, hb4⟩
  have HX4 := Lib.hid ((hb4.block _ (lt_of_heap HX3.out)).trans HX3.out)
  have HB4 := Lib.hid (HA3.out.trans (hb4.mono HA3.out.size))
  have HW4 := Lib.hid (HW3.out.far hb4)
  clear hb4 HX3 HA3 HW3 hrp HB3 HV3
  go_wp2_with fail
  refine (hp2 _).mono ?_
  rintro e w5 ⟨v5, rfl, hv5, hb5⟩
  have HX5 := Lib.hid ((hb5.block _ (lt_of_heap HX4.out)).trans HX4.out)
  have HB5 := Lib.hid (HB4.out.trans (hb5.mono HB4.out.size))
  have HW5 := Lib.hid (HW4.out.far hb5)
  have HV5 := Lib.hid hv5
  obtain ⟨s5, b5, a5, n5, c5, rfl⟩ := iv_form hv5
  have hbx : Below w5.heap.size w5 (w5.alloc (.cells #[.int .i64 s5, .bool b5, .slice a5 n5 c5] 58)) := (Below.refl _ _).alloc (Nat.le_refl _) _
  have hqt2 := hqt _ _ _ (HW5.out.far hbx) (HV5.out.far hbx)
  have HB6 := Lib.hid (HB5.out.alloc HB5.out.size (.cells #[.int .i64 s5, .bool b5, .slice a5 n5 c5] 58))
  obtain ⟨k0, k1, k2, -⟩ := Cells.of HX5.out
  have hlt5 := lt_of_heap HX5.out
  clear hb5 hv5 hbx hqt hp2 hp1
  go_wp2_with fail
  refine hqt2.mono ?_
  rintro e w7 ⟨v7, rfl, hv7, hb7⟩
  have HB7 := Lib.hid (HB6.out.trans (hb7.mono HB6.out.size))
  have hst := ratString_any v7 qq w7 hv7 (HE.out.far HB7.out) HSZ.out
  clear hb7 hv7 hqt2
  go_wp2_with fail
  refine hst.mono ?_
  rintro e w8 ⟨rfl, hb8⟩
  have HB8 := Lib.hid (HB7.out.trans (hb8.mono HB7.out.size))
  rw [HTX.out]
  go_wp2
  go_ret2
  exact ⟨rfl, HB8.out⟩
end
end Go.Proofs.YtgehimcngljmnaaGreatDoor

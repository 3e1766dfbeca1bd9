/- number.Int at the text of a small integer; Rat.Den. -/
import Derived.Test.YtgehimcngljmnaaGreatDoorAD
namespace Go.Proofs.YtgehimcngljmnaaGreatDoor
open Go.RowKit Nmx

theorem ratF_decI (z : Int) : ratF (decI z) = some (z : Rat) := by rw [← textQ_int]; exact ratF_text _
theorem gcdAt_decI (z : Int) : GcdAt (decI z) := gcdAt_int (contains_no (decI_no47 z))
theorem den_get (q : Rat) : (if q.den = 1 then (1 : Int) else denI q) = q.den := by
  unfold denI
  by_cases h : q.den = 1
  · rw [if_pos h, h]; rfl
  · rw [if_neg h, if_neg h]

section
set_option maxRecDepth 100000
set_option maxHeartbeats 4000000
theorem numInt_small (s : ByteArray) (z : Int) (w : World) (hs : s.size ≤ 1000000) (h : Env w) (hq : ratF s.data.toList = some (z : Rat)) (hg : GcdAt s.data.toList) (hz : Small z) :
    Calls Tryz.prog 24 #[.string s] w fun e w' => e = .returned (.tuple #[.int .i64 z, .bool true]) ∧ Below w.heap.size w w' := by
  have hp := parse_env s w hs h hg
  unfold ParsePost at hp
  rw [hq] at hp
  have hd1 : decide ((z : Rat).den = 1) = true := by simp
  have hq0 : (some (z : Rat)).getD 0 = (z : Rat) := rfl
  have HZ := Lib.hid hz
  rw [hq0] at hp
  clear hq hg h hs hq0 hz
  go_enter Tryz.func24, Tryz.ntmps24
  go_wp2_with fail
  refine hp.mono ?_
  rintro e w1 ⟨v, rfl, hv, hb1⟩
  have hi := fun W hW => ratIsInt_any v (z : Rat) W hW
  rw [hd1] at hi
  have hn := fun W hW => ratNum_any v (z : Rat) W hW
  rw [Rat.num_intCast] at hn
  have HV := Lib.hid hv
  obtain ⟨s1, b1, a1, n1, c1, s2, b2, a2, n2, c2, rfl, -, -⟩ := rv_form hv
  have HB1 := Lib.hid (hb1.alloc hb1.size (.cells #[.int .i64 s1, .bool b1, .slice a1 n1 c1, .int .i64 s2, .bool b2, .slice a2 n2 c2] 63))
  have HVA := Lib.hid (HV.out.far ((Below.refl w1.heap.size w1).alloc (Nat.le_refl _) (.cells #[.int .i64 s1, .bool b1, .slice a1 n1 c1, .int .i64 s2, .bool b2, .slice a2 n2 c2] 63)))
  have HN := Lib.hid (heap_alloc_new w1 (.cells #[.int .i64 s1, .bool b1, .slice a1 n1 c1, .int .i64 s2, .bool b2, .slice a2 n2 c2] 63))
  clear hv hp hb1 hd1 HV
  go_wp2_with fail
  refine (hi _ HVA.out).mono ?_
  rintro e w2 ⟨rfl, hb2⟩
  have HN2 := Lib.hid ((hb2.block _ (lt_of_heap HN.out)).trans HN.out)
  have HV2 := Lib.hid (HVA.out.far hb2)
  have HB2 := Lib.hid (HB1.out.trans (hb2.mono HB1.out.size))
  clear hb2 hi HN HVA HB1
  obtain ⟨y0, y1, y2, y3, y4, y5, -⟩ := Dozen.of HN2.out HN2.out
  generalize w1.heap.size = G at *
  go_wp2_with fail
  refine (hn _ HV2.out).mono ?_
  rintro e w3 ⟨v3, rfl, hv3, hb3⟩
  have hsm := isSmall_any v3 z w3 hv3
  rw [if_pos HZ.out, decide_eq_true HZ.out] at hsm
  have HB3 := Lib.hid (HB2.out.trans (hb3.mono HB2.out.size))
  clear hv3 hb3 hn
  go_wp2_with fail
  refine hsm.mono ?_
  rintro e w4 ⟨rfl, hb4⟩
  go_wp2
  go_ret2
  exact ⟨rfl, HB3.out.trans (hb4.mono HB3.out.size)⟩
theorem ratDen_any (v : Value) (q : Rat) (w : World) (h : RV w v q) : Calls Tryz.prog 104 #[v] w (GetsI q.den w) := by
  obtain ⟨s1, b1, a1, n1, c1, s2, b2, a2, n2, c2, rfl, h1, h2⟩ := rv_form h
  have HB0 := Lib.hid (below2 w (.cells #[.int .i64 s1, .bool b1, .slice a1 n1 c1, .int .i64 s2, .bool b2, .slice a2 n2 c2] 63) (.cells #[.int .i64 0, .bool false, .slice none 0 0] 58))
  have hz := isZero_any _ _ _ (h2.far HB0.out)
  rw [denI_zero] at hz
  have H2 := Lib.hid h2
  have HG := Lib.hid (den_get q)
  clear h h1 h2
  go_enter Tryz.func104, Tryz.ntmps104
  go_wp2_with fail
  refine hz.mono ?_
  rintro e w1 ⟨rfl, hb1⟩
  have HR1 := Lib.hid ((hb1.block w.heap.size (by simp; omega)).trans ((Below.heap_alloc _ _ _ (by simp)).trans (heap_alloc_new w _)))
  have HR2 := Lib.hid ((hb1.block (w.heap.size + 1) (by simp)).trans (new_second w _ _))
  have HB1 := Lib.hid (HB0.out.trans (hb1.mono (by simp; omega)))
  clear hb1 hz HB0
  by_cases hd : q.den = 1
  · have hdb : decide (q.den = 1) = true := by simpa using hd
    have hf := fromInt64_any 1 w1 (by omega) (by omega)
    have HE : Hid ((q.den : Int) = 1) := Lib.hid (by rw [hd]; rfl)
    clear hd HG
    go_wp2_with fail
    refine hf.mono ?_
    rintro e w2 ⟨v2, rfl, hv2, hb2⟩
    have HV2 := Lib.hid hv2
    obtain ⟨s3, b3, a3, n3, c3, rfl⟩ := iv_form hv2
    have HS2 := Lib.hid ((hb2.block _ (lt_of_heap HR2.out)).trans HR2.out)
    have HB2 := Lib.hid (HB1.out.trans (hb2.mono HB1.out.size))
    obtain ⟨r0, r1, r2, r3, r4, r5⟩ := Res.cells HS2.out
    clear hv2 hb2 hf
    go_wp2
    rw [HE.out]
    exact end_int Tryz.results104 rfl rfl HS2.out HV2.out HB2.out (by omega)
  · have hdb : decide (q.den = 1) = false := by simpa using hd
    have HE : Hid ((q.den : Int) = denI q) := Lib.hid (by rw [← HG.out, if_neg hd])
    obtain ⟨y0, y1, y2, y3, y4, y5, -⟩ := Dozen.of HR1.out HR1.out
    obtain ⟨r0, r1, r2, r3, r4, r5⟩ := Res.cells HR2.out
    clear hd HG
    go_wp2
    rw [HE.out]
    exact end_int Tryz.results104 rfl rfl HR2.out (H2.out.far HB1.out) HB1.out (by omega)
end
end Go.Proofs.YtgehimcngljmnaaGreatDoor

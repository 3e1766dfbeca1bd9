/- Quo, Rem, Gcd, Lcm of package number at texts of integers. -/
import Derived.Test.YtgehimcngljmnaaGreatDoorNT
namespace Go.Proofs.YtgehimcngljmnaaGreatDoor
open Go.RowKit Nmx

theorem tx_int (z : Int) : (⟨(decI z).toArray⟩ : ByteArray) = TX (z : Rat) := by unfold TX; rw [textQ_int]
theorem ds_fit {d : Nat} {z : Int} (h : z.natAbs < 10 ^ d) (hd : d ≤ 3000) : Fit z := by
  obtain ⟨k, hk⟩ : ∃ k, k = 334 := ⟨_, rfl⟩
  exact fit_of (k := k) (ten_words (d := d) (Nat.le_of_lt h) (by omega)) (by omega)
theorem awake_env (W : World) (h : Env W) : Calls Tryz.prog 14 #[] W fun e w' => e = .returned (.bool true) ∧ Below W.heap.size W w' := awake_ok W h
theorem intsT {d e : Nat} {x y : Int} (hx : x.natAbs < 10 ^ d) (hy : y.natAbs < 10 ^ e) (hd : d ≤ 3000) (he : e ≤ 3000) (W : World) (h : Env W) : Calls Tryz.prog 96 #[.string (TX (x : Rat)), .string (TX (y : Rat))] W (IntsPost x y W) := by
  have hs := DS.sz (Nmx.DS.int hx)
  have ht := DS.sz (Nmx.DS.int hy)
  exact integers_int _ _ x y W (by omega) (by omega) h (tx_ratF _) (tx_ratF _) (gcdAt_any (by rw [size_data]; omega)) (gcdAt_any (by rw [size_data]; omega))
theorem numQuoT {d e : Nat} {x y : Int} (hx : x.natAbs < 10 ^ d) (hy : y.natAbs < 10 ^ e) (hd : d ≤ 3000) (he : e ≤ 3000) (h0 : y ≠ 0) (W : World) (h : Env W) : Calls Tryz.prog 36 #[.string (TX (x : Rat)), .string (TX (y : Rat))] W (GetsT ((x / y : Int) : Rat) W) := by
  have hs := DS.sz (Nmx.DS.int hx)
  have ht := DS.sz (Nmx.DS.int hy)
  have hc := numQuo_int _ _ x y W (by omega) (by omega) h (tx_ratF _) (tx_ratF _) (gcdAt_any (by rw [size_data]; omega)) (gcdAt_any (by rw [size_data]; omega)) h0 (qrAt_any (ds_fit hx hd) (ds_fit hy he) h0)
  rw [tx_int] at hc
  exact hc
theorem numRemT {d e : Nat} {x y : Int} (hx : x.natAbs < 10 ^ d) (hy : y.natAbs < 10 ^ e) (hd : d ≤ 3000) (he : e ≤ 3000) (h0 : y ≠ 0) (W : World) (h : Env W) : Calls Tryz.prog 37 #[.string (TX (x : Rat)), .string (TX (y : Rat))] W (GetsT ((x % y : Int) : Rat) W) := by
  have hs := DS.sz (Nmx.DS.int hx)
  have ht := DS.sz (Nmx.DS.int hy)
  have hc := numRem_int _ _ x y W (by omega) (by omega) h (tx_ratF _) (tx_ratF _) (gcdAt_any (by rw [size_data]; omega)) (gcdAt_any (by rw [size_data]; omega)) h0 (qrAt_any (ds_fit hx hd) (ds_fit hy he) h0)
  rw [tx_int] at hc
  exact hc

section
set_option maxRecDepth 100000
set_option maxHeartbeats 4000000
theorem numQuo0T {d e : Nat} {x y : Int} (hx : x.natAbs < 10 ^ d) (hy : y.natAbs < 10 ^ e) (hd : d ≤ 3000) (he : e ≤ 3000) (h0 : y = 0) (W : World) (h : Env W) : Calls Tryz.prog 36 #[.string (TX (x : Rat)), .string (TX (y : Rat))] W fun e w' => e = .returned (.string ⟨#[]⟩) ∧ Below W.heap.size W w' := by
  have hin := intsT hx hy hd he W h
  have hzb : decide (y = 0) = true := decide_eq_true h0
  clear h hx hy hd he h0
  generalize TX (x : Rat) = tx at *
  generalize TX (y : Rat) = ty at *
  go_enter Tryz.func36, Tryz.ntmps36
  go_wp2_with fail
  go_enter Tryz.func94, Tryz.ntmps94
  go_wp2_with fail
  refine hin.mono ?_
  rintro e w1 ⟨v1, v2, rfl, hv1, hv2, hb1⟩
  have HB1 := Lib.hid hb1
  have HV1 := Lib.hid hv1
  have HV2 := Lib.hid hv2
  obtain ⟨s1, b1, a1, n1, c1, rfl⟩ := iv_form hv1
  obtain ⟨s2, b2, a2, n2, c2, rfl⟩ := iv_form hv2
  have HB2 := Lib.hid (below2 w1 (.cells #[.int .i64 s1, .bool b1, .slice a1 n1 c1] 58) (.cells #[.int .i64 s2, .bool b2, .slice a2 n2 c2] 58))
  have HX1 : Hid (((w1.alloc (.cells #[.int .i64 s1, .bool b1, .slice a1 n1 c1] 58)).alloc (.cells #[.int .i64 s2, .bool b2, .slice a2 n2 c2] 58)).heap[w1.heap.size]? = some (.cells #[.int .i64 s1, .bool b1, .slice a1 n1 c1] 58 (0, 0))) := Lib.hid ((Below.heap_alloc _ _ _ (by simp)).trans (heap_alloc_new w1 _))
  have HX2 := Lib.hid (new_second w1 (.cells #[.int .i64 s1, .bool b1, .slice a1 n1 c1] 58) (.cells #[.int .i64 s2, .bool b2, .slice a2 n2 c2] 58))
  clear hv1 hv2 hb1 hin
  have hiz := isZero_any _ y _ (HV2.out.far HB2.out)
  rw [hzb] at hiz
  clear hzb
  go_wp2_with fail
  refine hiz.mono ?_
  rintro e w2 ⟨rfl, hb2⟩
  have HB3 := Lib.hid (HB1.out.trans ((HB2.out.trans (hb2.mono HB2.out.size)).mono HB1.out.size))
  clear hb2 hiz
  go_wp2
  go_ret
  exact ⟨rfl, HB3.out⟩
theorem numRem0T {d e : Nat} {x y : Int} (hx : x.natAbs < 10 ^ d) (hy : y.natAbs < 10 ^ e) (hd : d ≤ 3000) (he : e ≤ 3000) (h0 : y = 0) (W : World) (h : Env W) : Calls Tryz.prog 37 #[.string (TX (x : Rat)), .string (TX (y : Rat))] W fun e w' => e = .returned (.string ⟨#[]⟩) ∧ Below W.heap.size W w' := by
  have hin := intsT hx hy hd he W h
  have hzb : decide (y = 0) = true := decide_eq_true h0
  clear h hx hy hd he h0
  generalize TX (x : Rat) = tx at *
  generalize TX (y : Rat) = ty at *
  go_enter Tryz.func37, Tryz.ntmps37
  go_wp2_with fail
  go_enter Tryz.func94, Tryz.ntmps94
  go_wp2_with fail
  refine hin.mono ?_
  rintro e w1 ⟨v1, v2, rfl, hv1, hv2, hb1⟩
  have HB1 := Lib.hid hb1
  have HV1 := Lib.hid hv1
  have HV2 := Lib.hid hv2
  obtain ⟨s1, b1, a1, n1, c1, rfl⟩ := iv_form hv1
  obtain ⟨s2, b2, a2, n2, c2, rfl⟩ := iv_form hv2
  have HB2 := Lib.hid (below2 w1 (.cells #[.int .i64 s1, .bool b1, .slice a1 n1 c1] 58) (.cells #[.int .i64 s2, .bool b2, .slice a2 n2 c2] 58))
  have HX1 : Hid (((w1.alloc (.cells #[.int .i64 s1, .bool b1, .slice a1 n1 c1] 58)).alloc (.cells #[.int .i64 s2, .bool b2, .slice a2 n2 c2] 58)).heap[w1.heap.size]? = some (.cells #[.int .i64 s1, .bool b1, .slice a1 n1 c1] 58 (0, 0))) := Lib.hid ((Below.heap_alloc _ _ _ (by simp)).trans (heap_alloc_new w1 _))
  have HX2 := Lib.hid (new_second w1 (.cells #[.int .i64 s1, .bool b1, .slice a1 n1 c1] 58) (.cells #[.int .i64 s2, .bool b2, .slice a2 n2 c2] 58))
  clear hv1 hv2 hb1 hin
  have hiz := isZero_any _ y _ (HV2.out.far HB2.out)
  rw [hzb] at hiz
  clear hzb
  go_wp2_with fail
  refine hiz.mono ?_
  rintro e w2 ⟨rfl, hb2⟩
  have HB3 := Lib.hid (HB1.out.trans ((HB2.out.trans (hb2.mono HB2.out.size)).mono HB1.out.size))
  clear hb2 hiz
  go_wp2
  go_ret
  exact ⟨rfl, HB3.out⟩
theorem numGcdT {d e : Nat} {x y : Int} (hx : x.natAbs < 10 ^ d) (hy : y.natAbs < 10 ^ e) (hd : d ≤ 3000) (he : e ≤ 3000) (W : World) (h : Env W) : Calls Tryz.prog 39 #[.string (TX (x : Rat)), .string (TX (y : Rat))] W (GetsT ((Int.gcd x y : Int) : Rat) W) := by
  have hin := intsT hx hy hd he W h
  have FX := Lib.hid (ds_fit hx hd)
  have FY := Lib.hid (ds_fit hy he)
  have HE := Lib.hid h
  unfold GetsT
  obtain ⟨tg, htg⟩ : ∃ tg, TX ((Int.gcd x y : Int) : Rat) = tg := ⟨_, rfl⟩
  rw [htg]
  have HTG := Lib.hid htg
  clear h hx hy hd he htg
  generalize TX (x : Rat) = tx at *
  generalize TX (y : Rat) = ty at *
  go_enter Tryz.func39, Tryz.ntmps39
  go_wp2_with fail
  refine hin.mono ?_
  rintro e w1 ⟨v1, v2, rfl, hv1, hv2, hb1⟩
  have HB1 := Lib.hid hb1
  have HV1 := Lib.hid hv1
  have HV2 := Lib.hid hv2
  obtain ⟨s1, b1, a1, n1, c1, rfl⟩ := iv_form hv1
  obtain ⟨s2, b2, a2, n2, c2, rfl⟩ := iv_form hv2
  have HB2 := Lib.hid (below2 w1 (.cells #[.int .i64 s1, .bool b1, .slice a1 n1 c1] 58) (.cells #[.int .i64 s2, .bool b2, .slice a2 n2 c2] 58))
  have HX1 : Hid (((w1.alloc (.cells #[.int .i64 s1, .bool b1, .slice a1 n1 c1] 58)).alloc (.cells #[.int .i64 s2, .bool b2, .slice a2 n2 c2] 58)).heap[w1.heap.size]? = some (.cells #[.int .i64 s1, .bool b1, .slice a1 n1 c1] 58 (0, 0))) := Lib.hid ((Below.heap_alloc _ _ _ (by simp)).trans (heap_alloc_new w1 _))
  have HX2 := Lib.hid (new_second w1 (.cells #[.int .i64 s1, .bool b1, .slice a1 n1 c1] 58) (.cells #[.int .i64 s2, .bool b2, .slice a2 n2 c2] 58))
  clear hv1 hv2 hb1 hin
  have hgc := gcd_any _ _ x y _ (HV1.out.far HB2.out) (HV2.out.far HB2.out) FX.out FY.out
  go_wp2_with fail
  refine hgc.mono ?_
  rintro e w2 ⟨v3, rfl, hv3, hb2⟩
  have HB3 := Lib.hid (HB1.out.trans ((HB2.out.trans (hb2.mono HB2.out.size)).mono HB1.out.size))
  have hst := strAt_any (Int.gcd x y : Int) v3 w2 (HE.out.far HB3.out) hv3
  rw [tx_int, HTG.out] at hst
  clear hb2 hgc hv3
  go_wp2_with fail
  refine hst.mono ?_
  rintro e w3 ⟨rfl, hb3⟩
  have HB4 := Lib.hid (HB3.out.trans (hb3.mono HB3.out.size))
  clear hb3 hst
  go_wp2
  go_ret
  exact ⟨rfl, HB4.out⟩
theorem numLcm_za {d e : Nat} {x y : Int} (hx : x.natAbs < 10 ^ d) (hy : y.natAbs < 10 ^ e) (hd : d ≤ 3000) (he : e ≤ 3000) (h0 : x = 0 ∨ y = 0) (W : World) (h : Env W) : Calls Tryz.prog 40 #[.string (TX (x : Rat)), .string (TX (y : Rat))] W fun e w' => e = .returned (.string ⟨#[48]⟩) ∧ Below W.heap.size W w' := by
  have hin := intsT hx hy hd he W h
  clear h hx hy hd he
  generalize TX (x : Rat) = tx at *
  generalize TX (y : Rat) = ty at *
  by_cases hx0 : x = 0
  · have hxb : decide (x = 0) = true := decide_eq_true hx0
    clear h0 hx0
    go_enter Tryz.func40, Tryz.ntmps40
    go_wp2_with fail
    refine hin.mono ?_
    rintro e w1 ⟨v1, v2, rfl, hv1, hv2, hb1⟩
    have HB1 := Lib.hid hb1
    have HV1 := Lib.hid hv1
    have HV2 := Lib.hid hv2
    obtain ⟨s1, b1, a1, n1, c1, rfl⟩ := iv_form hv1
    obtain ⟨s2, b2, a2, n2, c2, rfl⟩ := iv_form hv2
    have HB2 := Lib.hid (below2 w1 (.cells #[.int .i64 s1, .bool b1, .slice a1 n1 c1] 58) (.cells #[.int .i64 s2, .bool b2, .slice a2 n2 c2] 58))
    have HX1 : Hid (((w1.alloc (.cells #[.int .i64 s1, .bool b1, .slice a1 n1 c1] 58)).alloc (.cells #[.int .i64 s2, .bool b2, .slice a2 n2 c2] 58)).heap[w1.heap.size]? = some (.cells #[.int .i64 s1, .bool b1, .slice a1 n1 c1] 58 (0, 0))) := Lib.hid ((Below.heap_alloc _ _ _ (by simp)).trans (heap_alloc_new w1 _))
    have HX2 := Lib.hid (new_second w1 (.cells #[.int .i64 s1, .bool b1, .slice a1 n1 c1] 58) (.cells #[.int .i64 s2, .bool b2, .slice a2 n2 c2] 58))
    clear hv1 hv2 hb1 hin
    have hiz := isZero_any _ x _ (HV1.out.far HB2.out)
    rw [hxb] at hiz
    clear hxb
    go_wp2_with fail
    refine hiz.mono ?_
    rintro e w2 ⟨rfl, hb2⟩
    have HB3 := Lib.hid (HB1.out.trans ((HB2.out.trans (hb2.mono HB2.out.size)).mono HB1.out.size))
    clear hb2 hiz
    go_wp2
    go_ret
    exact ⟨rfl, HB3.out⟩
  · have hxb : decide (x = 0) = false := decide_eq_false hx0
    have hyb : decide (y = 0) = true := decide_eq_true (h0.resolve_left hx0)
    clear h0 hx0
    go_enter Tryz.func40, Tryz.ntmps40
    go_wp2_with fail
    refine hin.mono ?_
    rintro e w1 ⟨v1, v2, rfl, hv1, hv2, hb1⟩
    have HB1 := Lib.hid hb1
    have HV1 := Lib.hid hv1
    have HV2 := Lib.hid hv2
    obtain ⟨s1, b1, a1, n1, c1, rfl⟩ := iv_form hv1
    obtain ⟨s2, b2, a2, n2, c2, rfl⟩ := iv_form hv2
    have HB2 := Lib.hid (below2 w1 (.cells #[.int .i64 s1, .bool b1, .slice a1 n1 c1] 58) (.cells #[.int .i64 s2, .bool b2, .slice a2 n2 c2] 58))
    have HX1 : Hid (((w1.alloc (.cells #[.int .i64 s1, .bool b1, .slice a1 n1 c1] 58)).alloc (.cells #[.int .i64 s2, .bool b2, .slice a2 n2 c2] 58)).heap[w1.heap.size]? = some (.cells #[.int .i64 s1, .bool b1, .slice a1 n1 c1] 58 (0, 0))) := Lib.hid ((Below.heap_alloc _ _ _ (by simp)).trans (heap_alloc_new w1 _))
    have HX2 := Lib.hid (new_second w1 (.cells #[.int .i64 s1, .bool b1, .slice a1 n1 c1] 58) (.cells #[.int .i64 s2, .bool b2, .slice a2 n2 c2] 58))
    clear hv1 hv2 hb1 hin
    have hiz := isZero_any _ x _ (HV1.out.far HB2.out)
    have hiy := fun W hW => isZero_any _ y W (HV2.out.far hW)
    rw [hxb] at hiz
    rw [hyb] at hiy
    clear hxb hyb
    go_wp2_with fail
    refine hiz.mono ?_
    rintro e w2 ⟨rfl, hb2⟩
    have HB3 := Lib.hid (HB2.out.trans (hb2.mono HB2.out.size))
    have HY2 := Lib.hid ((hb2.block _ (lt_of_heap HX2.out)).trans HX2.out)
    obtain ⟨l0, l1, l2, -⟩ := Cells.of HY2.out
    have hiy2 := hiy _ HB3.out
    clear hb2 hiz hiy
    go_wp2_with fail
    refine hiy2.mono ?_
    rintro e w3 ⟨rfl, hb3⟩
    have HB4 := Lib.hid (HB1.out.trans ((HB3.out.trans (hb3.mono HB3.out.size)).mono HB1.out.size))
    clear hb3 hiy2
    go_wp2
    go_ret
    exact ⟨rfl, HB4.out⟩
end
end Go.Proofs.YtgehimcngljmnaaGreatDoor

/- The functions of package number at texts of numbers. -/
import Derived.Test.YtaffbaacilglgaaGreatDoorKNS
import Derived.Test.YtaffbaacilglgaaGreatDoorKRG
namespace Go.Proofs.YtaffbaacilglgaaGreatDoor
open Go.RowKit Nmx

theorem decI_lt (z : Int) : z.natAbs < 10 ^ (decI z).length := Nat.lt_of_lt_of_le (dec_lt z.natAbs) (ten_le (decI_ge z))
theorem fit_text {l : List UInt8} {z : Int} (h : canonF l = some z) (hl : l.length ≤ 8000) : Fit z := by
  have h1 := decI_lt z
  rw [canonF_some h] at h1
  obtain ⟨k, hk⟩ : ∃ k, k = 889 := ⟨_, rfl⟩
  exact fit_of (k := k) (ten_words (d := l.length) (Nat.le_of_lt h1) (by omega)) (by omega)
theorem gcdAt_any {l : List UInt8} (hl : l.length ≤ 8000) : GcdAt l := fun n d h1 h2 h3 => by
  have l1 : (upto l).length ≤ l.length := by unfold upto; exact (List.takeWhile_sublist _).length_le
  have l2 : (behind l).length ≤ l.length := by
    unfold behind
    rw [List.length_drop]
    exact Nat.le_trans (Nat.sub_le _ _) (List.dropWhile_sublist _).length_le
  exact gcdOk_any (fit_text h1 (by omega)) (fit_text h2 (by omega))
theorem ds_rs {d k : Nat} {q : Rat} (h : DS d q) (hk : d < 9 * k) : RS k q := ⟨ten_words (Nat.le_of_lt h.1) hk, ten_words h.2 hk⟩
theorem parseT {d : Nat} {p : Rat} (hp : DS d p) (hd : d ≤ 3000) (W : World) (h : Env W) : Calls Tryz.prog 90 #[.string (TX p)] W fun e w' => ∃ v, e = .returned (.tuple #[v, .bool true]) ∧ RV w' v p ∧ Below W.heap.size W w' := by
  have hs := DS.sz hp
  have hc := parse_env (TX p) W (by omega) h (gcdAt_any (by rw [size_data]; omega))
  unfold ParsePost at hc
  rw [tx_ratF] at hc
  exact hc
section
set_option maxRecDepth 100000
set_option maxHeartbeats 4000000
theorem numValidT {d : Nat} {p : Rat} (hp : DS d p) (hd : d ≤ 3000) (W : World) (h : Env W) : Calls Tryz.prog 60 #[.string (TX p)] W fun e w' => e = .returned (.bool true) ∧ Below W.heap.size W w' := by
  have hs := DS.sz hp
  have hc := numValid_any (TX p) W (by omega) h (gcdAt_any (by rw [size_data]; omega))
  rw [tx_ratF] at hc
  exact hc
theorem numIsIntT {d : Nat} {p : Rat} (hp : DS d p) (hd : d ≤ 3000) (W : World) (h : Env W) : Calls Tryz.prog 61 #[.string (TX p)] W fun e w' => e = .returned (.bool (decide (p.den = 1))) ∧ Below W.heap.size W w' := by
  have hs := DS.sz hp
  have hc := numIsInt_any (TX p) W (by omega) h (gcdAt_any (by rw [size_data]; omega))
  rw [tx_ratF] at hc
  exact hc
theorem numSignT {d : Nat} {p : Rat} (hp : DS d p) (hd : d ≤ 3000) (W : World) (h : Env W) : Calls Tryz.prog 62 #[.string (TX p)] W fun e w' => e = .returned (.int .i64 (sgnI p.num)) ∧ Below W.heap.size W w' := by
  have hs := DS.sz hp
  have hc := numSign_any (TX p) W (by omega) h (gcdAt_any (by rw [size_data]; omega))
  rw [tx_ratF] at hc
  exact hc
theorem numNegT {d : Nat} {p : Rat} (hp : DS d p) (hd : d ≤ 3000) (W : World) (h : Env W) : Calls Tryz.prog 68 #[.string (TX p)] W (GetsT (-p) W) := by
  have hpa := parseT hp hd W h
  have HRS : Hid (RS 334 p) := Lib.hid (ds_rs hp (by omega))
  have HSZ := Lib.hid (Nmx.DS.parts hp.neg)
  have HE := Lib.hid h
  clear h hp
  generalize TX p = tp at *
  go_enter Tryz.func68, Tryz.ntmps68
  go_wp2_with fail
  go_enter Tryz.func95, Tryz.ntmps95
  go_wp2_with fail
  refine hpa.mono ?_
  rintro e w1 ⟨v1, rfl, hv1, hb1⟩
  have HV1 := Lib.hid hv1
  have HB1 := Lib.hid hb1
  have hf := fun (W : World) (hW : Below w1.heap.size w1 W) => ratNeg_any v1 p W (HV1.out.far hW)
  obtain ⟨s1, b1, a1, n1, c1, s2, b2, a2, n2, c2, rfl, -, -⟩ := rv_form hv1
  have HB0 : Hid (Below w1.heap.size w1 (w1.alloc (.cells #[.int .i64 s1, .bool b1, .slice a1 n1 c1, .int .i64 s2, .bool b2, .slice a2 n2 c2] 130))) := Lib.hid ((Below.refl _ _).alloc (Nat.le_refl _) _)
  have hf0 := hf _ HB0.out
  clear hv1 hb1 hpa hf
  go_wp2_with fail
  refine hf0.mono ?_
  rintro e w2 ⟨v3, rfl, hv3, hb3⟩
  have HB2 := Lib.hid (HB1.out.trans ((HB0.out.trans (hb3.mono HB0.out.size)).mono HB1.out.size))
  have hst := ratString_any v3 _ w2 hv3 (HE.out.far HB2.out) (by have := HSZ.out; omega)
  clear hv3 hb3 hf0
  go_wp2_with fail
  refine hst.mono ?_
  rintro e w3 ⟨rfl, hb4⟩
  have HB3 := Lib.hid (HB2.out.trans (hb4.mono HB2.out.size))
  clear hb4 hst
  go_wp2
  go_ret
  exact ⟨rfl, HB3.out⟩
theorem numNumT {d : Nat} {p : Rat} (hp : DS d p) (hd : d ≤ 3000) (W : World) (h : Env W) : Calls Tryz.prog 69 #[.string (TX p)] W (GetsT ((p.num : Int) : Rat) W) := by
  have hpa := parseT hp hd W h
  have HRS : Hid (RS 334 p) := Lib.hid (ds_rs hp (by omega))
  have HSZ := Lib.hid (Nmx.DS.parts hp.num)
  have HE := Lib.hid h
  clear h hp
  generalize TX p = tp at *
  go_enter Tryz.func69, Tryz.ntmps69
  go_wp2_with fail
  go_enter Tryz.func95, Tryz.ntmps95
  go_wp2_with fail
  refine hpa.mono ?_
  rintro e w1 ⟨v1, rfl, hv1, hb1⟩
  have HV1 := Lib.hid hv1
  have HB1 := Lib.hid hb1
  have hf := fun (W : World) (hW : Below w1.heap.size w1 W) => numNum_in v1 p W (HV1.out.far hW)
  obtain ⟨s1, b1, a1, n1, c1, s2, b2, a2, n2, c2, rfl, -, -⟩ := rv_form hv1
  have HB0 : Hid (Below w1.heap.size w1 (w1.alloc (.cells #[.int .i64 s1, .bool b1, .slice a1 n1 c1, .int .i64 s2, .bool b2, .slice a2 n2 c2] 130))) := Lib.hid ((Below.refl _ _).alloc (Nat.le_refl _) _)
  have hf0 := hf _ HB0.out
  clear hv1 hb1 hpa hf
  go_wp2_with fail
  refine hf0.mono ?_
  rintro e w2 ⟨v3, rfl, hv3, hb3⟩
  have HB2 := Lib.hid (HB1.out.trans ((HB0.out.trans (hb3.mono HB0.out.size)).mono HB1.out.size))
  have hst := ratString_any v3 _ w2 hv3 (HE.out.far HB2.out) (by have := HSZ.out; omega)
  clear hv3 hb3 hf0
  go_wp2_with fail
  refine hst.mono ?_
  rintro e w3 ⟨rfl, hb4⟩
  have HB3 := Lib.hid (HB2.out.trans (hb4.mono HB2.out.size))
  clear hb4 hst
  go_wp2
  go_ret
  exact ⟨rfl, HB3.out⟩
theorem numDenT {d : Nat} {p : Rat} (hp : DS d p) (hd : d ≤ 3000) (W : World) (h : Env W) : Calls Tryz.prog 70 #[.string (TX p)] W (GetsT (((p.den : Int)) : Rat) W) := by
  have hpa := parseT hp hd W h
  have HRS : Hid (RS 334 p) := Lib.hid (ds_rs hp (by omega))
  have HSZ := Lib.hid (Nmx.DS.parts hp.den)
  have HE := Lib.hid h
  clear h hp
  generalize TX p = tp at *
  go_enter Tryz.func70, Tryz.ntmps70
  go_wp2_with fail
  go_enter Tryz.func95, Tryz.ntmps95
  go_wp2_with fail
  refine hpa.mono ?_
  rintro e w1 ⟨v1, rfl, hv1, hb1⟩
  have HV1 := Lib.hid hv1
  have HB1 := Lib.hid hb1
  have hf := fun (W : World) (hW : Below w1.heap.size w1 W) => numDen_in v1 p W (HV1.out.far hW)
  obtain ⟨s1, b1, a1, n1, c1, s2, b2, a2, n2, c2, rfl, -, -⟩ := rv_form hv1
  have HB0 : Hid (Below w1.heap.size w1 (w1.alloc (.cells #[.int .i64 s1, .bool b1, .slice a1 n1 c1, .int .i64 s2, .bool b2, .slice a2 n2 c2] 130))) := Lib.hid ((Below.refl _ _).alloc (Nat.le_refl _) _)
  have hf0 := hf _ HB0.out
  clear hv1 hb1 hpa hf
  go_wp2_with fail
  refine hf0.mono ?_
  rintro e w2 ⟨v3, rfl, hv3, hb3⟩
  have HB2 := Lib.hid (HB1.out.trans ((HB0.out.trans (hb3.mono HB0.out.size)).mono HB1.out.size))
  have hst := ratString_any v3 _ w2 hv3 (HE.out.far HB2.out) (by have := HSZ.out; omega)
  clear hv3 hb3 hf0
  go_wp2_with fail
  refine hst.mono ?_
  rintro e w3 ⟨rfl, hb4⟩
  have HB3 := Lib.hid (HB2.out.trans (hb4.mono HB2.out.size))
  clear hb4 hst
  go_wp2
  go_ret
  exact ⟨rfl, HB3.out⟩
end
end Go.Proofs.YtaffbaacilglgaaGreatDoor
namespace Go.Proofs.YtaffbaacilglgaaGreatDoor
open Go.RowKit Nmx

end Go.Proofs.YtaffbaacilglgaaGreatDoor
namespace Go.Proofs.YtaffbaacilglgaaGreatDoor
open Go.RowKit Nmx

end Go.Proofs.YtaffbaacilglgaaGreatDoor

/- The functions of package number at texts of numbers. -/
import Derived.Test.YtpkfnnkbfphfbaaGreatDoorZNS
import Derived.Test.YtpkfnnkbfphfbaaGreatDoorZRG
namespace Go.Proofs.YtpkfnnkbfphfbaaGreatDoor
open Go.RowKit Nmx

theorem decI_lt (z : Int) : z.natAbs < 10 ^ (decI z).length := Nat.lt_of_lt_of_le (dec_lt z.natAbs) (ten_le (decI_ge z))
theorem fit_text {l : List UInt8} {z : Int} (h : canonF l = some z) (hl : l.length ≤ 8000) : Fit z := by
  have h1 := decI_lt z
  rw [canonF_some h] at h1
  obtain ⟨k, hk⟩ : ∃ k, k = 889 := ⟨_, rfl⟩
  exact fit_of (k := k) (ten_words (d := l.length) (Nat.le_of_lt h1) (by omega)) (by omega)
theorem gcdAt_any {l : List UInt8} (hl : l.length ≤ 8000) : GcdAt l := fun n d h1 h2 h3 => by
  have l1 : (upto l).length ≤ l.length := by unfold upto; exact (List.takeWhile_sublist _).length_le
  have l2 : (behind l).length ≤ l.length := by
    unfold behind
    rw [List.length_drop]
    exact Nat.le_trans (Nat.sub_le _ _) (List.dropWhile_sublist _).length_le
  exact gcdOk_any (fit_text h1 (by omega)) (fit_text h2 (by omega))
theorem ds_rs {d k : Nat} {q : Rat} (h : DS d q) (hk : d < 9 * k) : RS k q := ⟨ten_words (Nat.le_of_lt h.1) hk, ten_words h.2 hk⟩
theorem parseT {d : Nat} {p : Rat} (hp : DS d p) (hd : d ≤ 3000) (W : World) (h : Env W) : Calls Tryz.prog 56 #[.string (TX p)] W fun e w' => ∃ v, e = .returned (.tuple #[v, .bool true]) ∧ RV w' v p ∧ Below W.heap.size W w' := by
  have hs := DS.sz hp
  have hc := parse_env (TX p) W (by omega) h (gcdAt_any (by rw [size_data]; omega))
  unfold ParsePost at hc
  rw [tx_ratF] at hc
  exact hc
theorem pairT {d e : Nat} {p q : Rat} (hp : DS d p) (hq : DS e q) (hd : d ≤ 3000) (he : e ≤ 3000) (W : World) (h : Env W) : Calls Tryz.prog 88 #[.string (TX p), .string (TX q)] W fun e w' => ∃ v1 v2, e = .returned (.tuple #[v1, v2, .bool true]) ∧ RV w' v1 p ∧ RV w' v2 q ∧ Below W.heap.size W w' := by
  have hs := DS.sz hp
  have ht := DS.sz hq
  have hc := pair_any (TX p) (TX q) W (by omega) (by omega) h (gcdAt_any (by rw [size_data]; omega)) (gcdAt_any (by rw [size_data]; omega))
  unfold PairPost at hc
  rw [tx_ratF, tx_ratF] at hc
  exact hc

section
set_option maxRecDepth 100000
set_option maxHeartbeats 4000000
theorem numIsIntT {d : Nat} {p : Rat} (hp : DS d p) (hd : d ≤ 3000) (W : World) (h : Env W) : Calls Tryz.prog 32 #[.string (TX p)] W fun e w' => e = .returned (.bool (decide (p.den = 1))) ∧ Below W.heap.size W w' := by
  have hs := DS.sz hp
  have hc := numIsInt_any (TX p) W (by omega) h (gcdAt_any (by rw [size_data]; omega))
  rw [tx_ratF] at hc
  exact hc
theorem numSignT {d : Nat} {p : Rat} (hp : DS d p) (hd : d ≤ 3000) (W : World) (h : Env W) : Calls Tryz.prog 155 #[.string (TX p)] W fun e w' => e = .returned (.int .i64 (sgnI p.num)) ∧ Below W.heap.size W w' := by
  have hs := DS.sz hp
  have hc := numSign_any (TX p) W (by omega) h (gcdAt_any (by rw [size_data]; omega))
  rw [tx_ratF] at hc
  exact hc


end
end Go.Proofs.YtpkfnnkbfphfbaaGreatDoor
namespace Go.Proofs.YtpkfnnkbfphfbaaGreatDoor
open Go.RowKit Nmx

def modF (a b : Int) : Int := (a % 18446744073709551616) % b
set_option maxHeartbeats 400000 in
theorem mod_any (a b : Int) (w : World) (hb : 1 ≤ b) (hb' : b ≤ 1000000000000000000) :
    Calls Tryz.prog 10 #[.int .i64 a, .int .i64 b] w fun e w' => e = .returned (.int .i64 (modF a b)) ∧ w = w' := by
  have hwr : IntKind.u64.wrap a = a % 18446744073709551616 := by rw [IntKind.wrap_u64]
  have HW := Lib.hid hwr
  clear hwr
  go_enter Tryz.func10, Tryz.ntmps10
  go_wp2
  go_ret
  refine ⟨ret_int ?_, rfl⟩
  rw [HW.out, Int.tmod_eq_emod_of_nonneg (by omega)]
  unfold modF
  have h0 := Int.emod_nonneg (a % 18446744073709551616) (show b ≠ 0 by omega)
  have h3 := Int.emod_lt_of_pos (a % 18446744073709551616) (show 0 < b by omega)
  exact IntWalk.wrap64_in _ ⟨by omega, by omega⟩

theorem grown_refl (w : World) (r : Option Nat) : w.grownBy w r := ⟨rfl, rfl, rfl, Nat.le_refl _, fun _ _ _ => rfl⟩
theorem grown_trans {w w1 w2 : World} {r : Option Nat} (h : w.grownBy w1 r) (h2 : w1.grownBy w2 r) : w.grownBy w2 r :=
  ⟨h2.os.trans h.os, h2.tape.trans h.tape, h2.output.trans h.output, Nat.le_trans h.size h2.size, fun k hk hr => (h2.block k (Nat.lt_of_lt_of_le hk h.size) hr).trans (h.block k hk hr)⟩
theorem grown_drewN {w w1 : World} {r : Option Nat} (h : w.grownBy w1 r) (n : Nat) : w.grownBy (w1.drewN n) r :=
  let b := below_drewN (Below.refl 0 w1) n
  ⟨b.os.trans h.os, b.tape.trans h.tape, b.output.trans h.output, Nat.le_trans h.size b.size, fun k hk hr => h.block k hk hr⟩
theorem grown_setCell {w w1 : World} {r : Nat} (h : w.grownBy w1 (some r)) (j : Nat) (v : Value) : w.grownBy (w1.setCell ⟨r, j, none⟩ v) (some r) :=
  ⟨h.os, h.tape, h.output, by simpa [World.setCell] using h.size, fun k hk hr => by rw [Below.heap_setCell _ _ _ _ (by show k ≠ r; exact fun e => hr (by rw [e]))]; exact h.block k hk hr⟩
theorem mod_q (a b : Int) (w : World) (hb : 1 ≤ b) (hb2 : b ≤ 1000000000000000000) : Calls Tryz.prog 10 #[.int .i64 a, .int .i64 b] w fun e w1 => e = .returned (.int .i64 (modF a b)) ∧ w1 = w := (mod_any a b w hb hb2).mono fun _ _ h => ⟨h.1, h.2.symm⟩

theorem grown_below {w w' : World} (h : Below w.heap.size w w') : w.grownBy w' none := ⟨h.os, h.tape, h.output, h.size, fun k hk _ => h.block k hk⟩
theorem grown_more {w w' : World} {r : Option Nat} (h : w.grownBy w' none) : w.grownBy w' r := ⟨h.os, h.tape, h.output, h.size, fun k hk _ => h.block k hk (by simp)⟩
theorem grown_call {w w1 w2 : World} {r : Option Nat} (h : w.grownBy w1 r) (h2 : Below w1.heap.size w1 w2) : w.grownBy w2 r := grown_trans h (grown_more (grown_below h2))
end Go.Proofs.YtpkfnnkbfphfbaaGreatDoor
namespace Go.Proofs.YtpkfnnkbfphfbaaGreatDoor
open Go.RowKit Nmx

end Go.Proofs.YtpkfnnkbfphfbaaGreatDoor
/- Num, Den, Neg, Valid of number at texts of numbers. -/
namespace Go.Proofs.YtpkfnnkbfphfbaaGreatDoor
open Go.RowKit Nmx
section
set_option maxRecDepth 100000
set_option maxHeartbeats 4000000
theorem numNum_in (x : Value) (p : Rat) (w : World) (hx : RV w x p)  : Calls Tryz.prog 203 #[x] w (GetsQ ((p.num : Int) : Rat) w) := by
  have hc := fun W (hW : Below w.heap.size w W) => ratNum_any x p W (hx.far hW)
  obtain ⟨s1, b1, a1, n1, c1, s2, b2, a2, n2, c2, rfl, h1, h2⟩ := rv_form hx
  have HT := Lib.hid (OneR.new w (.int .i64 s1) (.bool b1) (.slice a1 n1 c1) (.int .i64 s2) (.bool b2) (.slice a2 n2 c2) _ rfl)
  clear hx h1 h2
  go_enter Tryz.func203, Tryz.ntmps203
  go_wp2_with fail
  refine (hc _ HT.out.bel).mono ?_
  rintro e w1 ⟨v1, rfl, hv1, hb1⟩
  have HT1 := Lib.hid (HT.out.far hb1)
  have hfi := ratFromInt_any v1 _ w1 hv1
  clear hv1 hb1 hc HT
  go_wp2_with fail
  refine hfi.mono ?_
  rintro e w2 ⟨v2, rfl, hv2, hb2⟩
  have HT2 := Lib.hid (HT1.out.far hb2)
  obtain ⟨g1, g2, g3, g4, g5, g6, g7, g8, g9, g10, rfl, hg1, hg2⟩ := rv_form hv2
  have HG1 := Lib.hid hg1
  have HG2 := Lib.hid hg2
  obtain ⟨⟨r0, r1, r2, r3, r4, r5⟩, fr⟩ := ResR.cells HT2.out.hr
  clear hv2 hb2 hfi HT1 hg1 hg2
  go_wp2
  exact end_rat Tryz.results203 rfl rfl HT2.out.hr HG1.out HG2.out HT2.out.bel (by omega)
theorem numDen_in (x : Value) (p : Rat) (w : World) (hx : RV w x p)  : Calls Tryz.prog 204 #[x] w (GetsQ (((p.den : Int) : Int) : Rat) w) := by
  have hc := fun W (hW : Below w.heap.size w W) => ratDen_any x p W (hx.far hW)
  obtain ⟨s1, b1, a1, n1, c1, s2, b2, a2, n2, c2, rfl, h1, h2⟩ := rv_form hx
  have HT := Lib.hid (OneR.new w (.int .i64 s1) (.bool b1) (.slice a1 n1 c1) (.int .i64 s2) (.bool b2) (.slice a2 n2 c2) _ rfl)
  clear hx h1 h2
  go_enter Tryz.func204, Tryz.ntmps204
  go_wp2_with fail
  refine (hc _ HT.out.bel).mono ?_
  rintro e w1 ⟨v1, rfl, hv1, hb1⟩
  have HT1 := Lib.hid (HT.out.far hb1)
  have hfi := ratFromInt_any v1 _ w1 hv1
  clear hv1 hb1 hc HT
  go_wp2_with fail
  refine hfi.mono ?_
  rintro e w2 ⟨v2, rfl, hv2, hb2⟩
  have HT2 := Lib.hid (HT1.out.far hb2)
  obtain ⟨g1, g2, g3, g4, g5, g6, g7, g8, g9, g10, rfl, hg1, hg2⟩ := rv_form hv2
  have HG1 := Lib.hid hg1
  have HG2 := Lib.hid hg2
  obtain ⟨⟨r0, r1, r2, r3, r4, r5⟩, fr⟩ := ResR.cells HT2.out.hr
  clear hv2 hb2 hfi HT1 hg1 hg2
  go_wp2
  exact end_rat Tryz.results204 rfl rfl HT2.out.hr HG1.out HG2.out HT2.out.bel (by omega)
theorem numValidT {d : Nat} {p : Rat} (hp : DS d p) (hd : d ≤ 3000) (W : World) (h : Env W) : Calls Tryz.prog 33 #[.string (TX p)] W fun e w' => e = .returned (.bool true) ∧ Below W.heap.size W w' := by
  have hs := DS.sz hp
  have hc := numValid_any (TX p) W (by omega) h (gcdAt_any (by rw [size_data]; omega))
  rw [tx_ratF] at hc
  exact hc
theorem numNegT {d : Nat} {p : Rat} (hp : DS d p) (hd : d ≤ 3000) (W : World) (h : Env W) : Calls Tryz.prog 166 #[.string (TX p)] W (GetsT (-p) W) := by
  have hpa := parseT hp hd W h
  have HRS : Hid (RS 334 p) := Lib.hid (ds_rs hp (by omega))
  have HSZ := Lib.hid (Nmx.DS.parts hp.neg)
  have HE := Lib.hid h
  clear h hp
  generalize TX p = tp at *
  go_enter Tryz.func166, Tryz.ntmps166
  go_wp2_with fail
  go_enter Tryz.func201, Tryz.ntmps201
  go_wp2_with fail
  refine hpa.mono ?_
  rintro e w1 ⟨v1, rfl, hv1, hb1⟩
  have HV1 := Lib.hid hv1
  have HB1 := Lib.hid hb1
  have hf := fun (W : World) (hW : Below w1.heap.size w1 W) => ratNeg_any v1 p W (HV1.out.far hW)
  obtain ⟨s1, b1, a1, n1, c1, s2, b2, a2, n2, c2, rfl, -, -⟩ := rv_form hv1
  have HB0 : Hid (Below w1.heap.size w1 (w1.alloc (.cells #[.int .i64 s1, .bool b1, .slice a1 n1 c1, .int .i64 s2, .bool b2, .slice a2 n2 c2] 75))) := Lib.hid ((Below.refl _ _).alloc (Nat.le_refl _) _)
  have hf0 := hf _ HB0.out
  clear hv1 hb1 hpa hf
  go_wp2_with fail
  refine hf0.mono ?_
  rintro e w2 ⟨v3, rfl, hv3, hb3⟩
  have HB2 := Lib.hid (HB1.out.trans ((HB0.out.trans (hb3.mono HB0.out.size)).mono HB1.out.size))
  have hst := ratString_any v3 _ w2 hv3 (HE.out.far HB2.out) (by have := HSZ.out; omega)
  clear hv3 hb3 hf0
  go_wp2_with fail
  refine hst.mono ?_
  rintro e w3 ⟨rfl, hb4⟩
  have HB3 := Lib.hid (HB2.out.trans (hb4.mono HB2.out.size))
  clear hb4 hst
  go_wp2
  go_ret
  exact ⟨rfl, HB3.out⟩
theorem numNumT {d : Nat} {p : Rat} (hp : DS d p) (hd : d ≤ 3000) (W : World) (h : Env W) : Calls Tryz.prog 167 #[.string (TX p)] W (GetsT ((p.num : Int) : Rat) W) := by
  have hpa := parseT hp hd W h
  have HRS : Hid (RS 334 p) := Lib.hid (ds_rs hp (by omega))
  have HSZ := Lib.hid (Nmx.DS.parts hp.num)
  have HE := Lib.hid h
  clear h hp
  generalize TX p = tp at *
  go_enter Tryz.func167, Tryz.ntmps167
  go_wp2_with fail
  go_enter Tryz.func201, Tryz.ntmps201
  go_wp2_with fail
  refine hpa.mono ?_
  rintro e w1 ⟨v1, rfl, hv1, hb1⟩
  have HV1 := Lib.hid hv1
  have HB1 := Lib.hid hb1
  have hf := fun (W : World) (hW : Below w1.heap.size w1 W) => numNum_in v1 p W (HV1.out.far hW)
  obtain ⟨s1, b1, a1, n1, c1, s2, b2, a2, n2, c2, rfl, -, -⟩ := rv_form hv1
  have HB0 : Hid (Below w1.heap.size w1 (w1.alloc (.cells #[.int .i64 s1, .bool b1, .slice a1 n1 c1, .int .i64 s2, .bool b2, .slice a2 n2 c2] 75))) := Lib.hid ((Below.refl _ _).alloc (Nat.le_refl _) _)
  have hf0 := hf _ HB0.out
  clear hv1 hb1 hpa hf
  go_wp2_with fail
  refine hf0.mono ?_
  rintro e w2 ⟨v3, rfl, hv3, hb3⟩
  have HB2 := Lib.hid (HB1.out.trans ((HB0.out.trans (hb3.mono HB0.out.size)).mono HB1.out.size))
  have hst := ratString_any v3 _ w2 hv3 (HE.out.far HB2.out) (by have := HSZ.out; omega)
  clear hv3 hb3 hf0
  go_wp2_with fail
  refine hst.mono ?_
  rintro e w3 ⟨rfl, hb4⟩
  have HB3 := Lib.hid (HB2.out.trans (hb4.mono HB2.out.size))
  clear hb4 hst
  go_wp2
  go_ret
  exact ⟨rfl, HB3.out⟩
theorem numDenT {d : Nat} {p : Rat} (hp : DS d p) (hd : d ≤ 3000) (W : World) (h : Env W) : Calls Tryz.prog 168 #[.string (TX p)] W (GetsT (((p.den : Int)) : Rat) W) := by
  have hpa := parseT hp hd W h
  have HRS : Hid (RS 334 p) := Lib.hid (ds_rs hp (by omega))
  have HSZ := Lib.hid (Nmx.DS.parts hp.den)
  have HE := Lib.hid h
  clear h hp
  generalize TX p = tp at *
  go_enter Tryz.func168, Tryz.ntmps168
  go_wp2_with fail
  go_enter Tryz.func201, Tryz.ntmps201
  go_wp2_with fail
  refine hpa.mono ?_
  rintro e w1 ⟨v1, rfl, hv1, hb1⟩
  have HV1 := Lib.hid hv1
  have HB1 := Lib.hid hb1
  have hf := fun (W : World) (hW : Below w1.heap.size w1 W) => numDen_in v1 p W (HV1.out.far hW)
  obtain ⟨s1, b1, a1, n1, c1, s2, b2, a2, n2, c2, rfl, -, -⟩ := rv_form hv1
  have HB0 : Hid (Below w1.heap.size w1 (w1.alloc (.cells #[.int .i64 s1, .bool b1, .slice a1 n1 c1, .int .i64 s2, .bool b2, .slice a2 n2 c2] 75))) := Lib.hid ((Below.refl _ _).alloc (Nat.le_refl _) _)
  have hf0 := hf _ HB0.out
  clear hv1 hb1 hpa hf
  go_wp2_with fail
  refine hf0.mono ?_
  rintro e w2 ⟨v3, rfl, hv3, hb3⟩
  have HB2 := Lib.hid (HB1.out.trans ((HB0.out.trans (hb3.mono HB0.out.size)).mono HB1.out.size))
  have hst := ratString_any v3 _ w2 hv3 (HE.out.far HB2.out) (by have := HSZ.out; omega)
  clear hv3 hb3 hf0
  go_wp2_with fail
  refine hst.mono ?_
  rintro e w3 ⟨rfl, hb4⟩
  have HB3 := Lib.hid (HB2.out.trans (hb4.mono HB2.out.size))
  clear hb4 hst
  go_wp2
  go_ret
  exact ⟨rfl, HB3.out⟩
end
end Go.Proofs.YtpkfnnkbfphfbaaGreatDoor

/- Rat.Neg, Abs, Sub, Mul, Div of package exact. -/
import Derived.Test.YteoklapcifonaaaGreatDoorNNR
import Derived.Test.YteoklapcifonaaaGreatDoorNNA
open Go.Lib (hid)
namespace Go.Proofs.YteoklapcifonaaaGreatDoor
open Go.RowKit Nmx
/-- a rational number that came in, in block B, and a result in block B + 1 -/
structure OneR (w wx : World) (x0 x1 x2 x3 x4 x5 : Value) : Prop where
 ha : wx.heap[w.heap.size]? = some (.cells #[x0, x1, x2, x3, x4, x5] 85 (0, 0))
 hr : wx.heap[w.heap.size + 1]? = some (.cells #[.int .i64 0, .bool false, .slice none 0 0, .int .i64 0, .bool false, .slice none 0 0] 85 (0, 0))
 bel : Below w.heap.size w wx
theorem OneR.far {w wx w1 : World} {x0 x1 x2 x3 x4 x5 : Value} (h : OneR w wx x0 x1 x2 x3 x4 x5) (hb : Below wx.heap.size wx w1) : OneR w w1 x0 x1 x2 x3 x4 x5 :=
 ⟨(hb.block _ (ab h.ha)).trans h.ha, (hb.block _ (ab h.hr)).trans h.hr, h.bel.trans (hb.mono h.bel.size)⟩
theorem OneR.drew {w wx : World} {x0 x1 x2 x3 x4 x5 : Value} (h : OneR w wx x0 x1 x2 x3 x4 x5) : OneR w wx.drew x0 x1 x2 x3 x4 x5 := ⟨h.ha, h.hr, h.bel.drew⟩
theorem OneR.cells {w wx : World} {x0 x1 x2 x3 x4 x5 : Value} (h : OneR w wx x0 x1 x2 x3 x4 x5) : wx.cell? ⟨w.heap.size, 0, none⟩ = some x0 ∧ wx.cell? ⟨w.heap.size, 1, none⟩ = some x1 ∧ wx.cell? ⟨w.heap.size, 2, none⟩ = some x2 ∧ wx.cell? ⟨w.heap.size, 3, none⟩ = some x3 ∧ wx.cell? ⟨w.heap.size, 4, none⟩ = some x4 ∧ wx.cell? ⟨w.heap.size, 5, none⟩ = some x5 :=
 ⟨aa h.ha 0, aa h.ha 1, aa h.ha 2, aa h.ha 3, aa h.ha 4, aa h.ha 5⟩
theorem OneR.new (w : World) (x0 x1 x2 x3 x4 x5 : Value) (o : Obj) (ho : o = .cells #[.int .i64 0, .bool false, .slice none 0 0, .int .i64 0, .bool false, .slice none 0 0] 85) : OneR w ((w.alloc (.cells #[x0, x1, x2, x3, x4, x5] 85)).alloc o) x0 x1 x2 x3 x4 x5 := by
 subst ho;exact ⟨(Below.heap_alloc _ _ _ (by simp)).trans (heap_alloc_new w _), bC w _ _, below2 w _ _⟩
theorem denI_neg (q : Rat) : denI (-q) = denI q := rfl
theorem RS.neg {k : Nat} {q : Rat} (h : RS k q) : RS k (-q) := ⟨by show (-q.num).natAbs < _; rw [Int.natAbs_neg]; exact h.1, h.2⟩
theorem quotOk_sum {k l : Nat} {p q : Rat} (hp : RS k p) (hq : RS l q) (hkl : k + l ≤ 900) : QuotOk (p.num * q.den + q.num * p.den) (p.den * q.den) := by
 have h1 : (p.num * q.den).natAbs < BB ^ (k + l) := by rw [Int.natAbs_mul, Int.natAbs_natCast]; exact bb_mul hp.1 hq.2
 have h2 : (q.num * p.den).natAbs < BB ^ (k + l) := by rw [Int.natAbs_mul, Int.natAbs_natCast, Nat.add_comm k l]; exact bb_mul hq.1 hp.2
 have h3 : ((p.den : Int) * (q.den : Int)).natAbs < BB ^ (k + l) := by rw [Int.natAbs_mul, Int.natAbs_natCast, Int.natAbs_natCast]; exact bb_mul hp.2 hq.2
 exact quotOk_any (bV (fit_sum h1 h2) (by omega)) (bV h3 (by omega)) (Int.mul_ne_zero (by have := p.den_nz; omega) (by have := q.den_nz; omega))
theorem quotOk_prod {k l : Nat} {p q : Rat} (hp : RS k p) (hq : RS l q) (hkl : k + l ≤ 900) : QuotOk (p.num * q.num) (p.den * q.den) := by
 have h1 : (p.num * q.num).natAbs < BB ^ (k + l) := by rw [Int.natAbs_mul]; exact bb_mul hp.1 hq.1
 have h3 : ((p.den : Int) * (q.den : Int)).natAbs < BB ^ (k + l) := by rw [Int.natAbs_mul, Int.natAbs_natCast, Int.natAbs_natCast]; exact bb_mul hp.2 hq.2
 exact quotOk_any (bV h1 (by omega)) (bV h3 (by omega)) (Int.mul_ne_zero (by have := p.den_nz; omega) (by have := q.den_nz; omega))
section
set_option maxRecDepth 100000
set_option maxHeartbeats 4000000
theorem ratNeg_any (x : Value) (p : Rat) (w : World) (hx : RV w x p) : Calls Tryz.prog 125 #[x] w (GetsQ (-p) w) := by
 obtain ⟨s1, b1, a1, n1, c1, s2, b2, a2, n2, c2, rfl, h1, h2⟩ := aR hx;have H1 := hid h1;have H2 := hid h2;have HT := hid (OneR.new w (.int .i64 s1) (.bool b1) (.slice a1 n1 c1) (.int .i64 s2) (.bool b2) (.slice a2 n2 c2) _ rfl);have K0 := hid HT.out.drew.cells;have hne1 : w.heap.size ≠ w.heap.size + 1 := by omega
 clear hx h1 h2
 go_enter Tryz.func125, Tryz.ntmps125
 go_wp2
 go_region_held3 (fun w' => w'.cell? ⟨w.heap.size, 0, none⟩ = some (.int .i64 s1) ∧ w'.cell? ⟨w.heap.size, 1, none⟩ = some (.bool b1) ∧ w'.cell? ⟨w.heap.size, 2, none⟩ = some (.slice a1 n1 c1) ∧ w'.cell? ⟨w.heap.size, 3, none⟩ = some (.int .i64 s2) ∧ w'.cell? ⟨w.heap.size, 4, none⟩ = some (.bool b2) ∧ w'.cell? ⟨w.heap.size, 5, none⟩ = some (.slice a2 n2 c2))
  (first | with_reducible exact K1.out | with_reducible exact K0.out | (obtain ⟨k0, k1, k2, k3, k4, k5⟩ := K1.out; exact ⟨(ak hne1 _ _ _ _ _ _ 0).trans k0, (ak hne1 _ _ _ _ _ _ 1).trans k1, (ak hne1 _ _ _ _ _ _ 2).trans k2, (ak hne1 _ _ _ _ _ _ 3).trans k3, (ak hne1 _ _ _ _ _ _ 4).trans k4, (ak hne1 _ _ _ _ _ _ 5).trans k5⟩))
  (first
    | (go_at_call 150; first
        | (with_reducible refine (neg_any _ p.num _ (H1.out.far HT.out.drew.bel)).mono ?_
           rintro e u1 ⟨v1, rfl, hv1, hb1⟩;have T1 := hid (HT.out.drew.far hb1);have K1 := hid T1.out.cells;have V1_1 := hid hv1;obtain ⟨e1a, e1b, e1c, e1d, e1f, rfl⟩ := ae hv1
           obtain ⟨⟨r0, r1, r2, r3, r4, r5⟩, fr⟩ := ResR.cells T1.out.hr)))
 go_wp2
 exact end_rat Tryz.results125 rfl rfl T1.out.hr (by show IV _ _ (-p.num); exact V1_1.out) (by rw [denI_neg]; exact H2.out.far T1.out.bel) T1.out.bel (by omega)
/-- two rational numbers, each with its sizes -/
theorem ratAdd_ok {k l : Nat} (x y : Value) (p q : Rat) (w : World) (hx : RV w x p) (hy : RV w y q) (hp : RS k p) (hq : RS l q) (hkl : k + l ≤ 900) : Calls Tryz.prog 95 #[x, y] w (GetsQ (p + q) w) :=
 ratAdd_any x y p q w hx hy hp hq hkl (quotOk_sum hp hq hkl)
theorem ratMul_any {k l : Nat} (x y : Value) (p q : Rat) (w : World) (hx : RV w x p) (hy : RV w y q) (hp : RS k p) (hq : RS l q) (hkl : k + l ≤ 900) : Calls Tryz.prog 62 #[x, y] w (GetsQ (p * q) w) := by
 have hip := fun W (hW : Below w.heap.size w W) => bG x p W (hx.far hW)
 have hiq := fun W (hW : Below w.heap.size w W) => bG y q W (hy.far hW)
 have hdp := fun W (hW : Below w.heap.size w W) => ratDen_any x p W (hx.far hW)
 have hdq := fun W (hW : Below w.heap.size w W) => ratDen_any y q W (hy.far hW)
 obtain ⟨s1, b1, a1, n1, c1, s2, b2, a2, n2, c2, rfl, h1, h2⟩ := aR hx;obtain ⟨s3, b3, a3, n3, c3, s4, b4, a4, n4, c4, rfl, h3, h4⟩ := aR hy;have H1 := hid h1;have H3 := hid h3;have HT0 := hid (TwoR.new w (.int .i64 s1) (.bool b1) (.slice a1 n1 c1) (.int .i64 s2) (.bool b2) (.slice a2 n2 c2) (.int .i64 s3) (.bool b3) (.slice a3 n3 c3) (.int .i64 s4) (.bool b4) (.slice a4 n4 c4) _ rfl);have HPF := hid hp;have HQF := hid hq;have HQ := hid (quotOk_prod hp hq hkl);have hip0 := hip _ HT0.out.bel;clear hx hy h1 h2 h3 h4 hp hq
 go_enter Tryz.func62, Tryz.ntmps62
 go_upto_region 1 with fail
 go_cut [10] (fun cv wx => cv = .bool (decide (p.den = 1) && decide (q.den = 1)) ∧ TwoR w wx (.int .i64 s1) (.bool b1) (.slice a1 n1 c1) (.int .i64 s2) (.bool b2) (.slice a2 n2 c2) (.int .i64 s3) (.bool b3) (.slice a3 n3 c3) (.int .i64 s4) (.bool b4) (.slice a4 n4 c4))
 case first =>
  go_wp2_with fail
  refine hip0.mono ?_;rintro e w1 ⟨rfl, hb1⟩;have HT1 := hid (HT0.out.far hb1);have hiq1 := hiq w1 HT1.out.bel;obtain ⟨y0, y1, y2, y3, y4, y5, z0, z1, z2, z3, z4, z5⟩ := HT1.out.cells;clear hb1 hip0
  by_cases hd : p.den = 1
  · have hdb : decide (p.den = 1) = true := by simpa using hd
    go_wp2_with fail
    refine hiq1.mono ?_;rintro e w2 ⟨rfl, hb2⟩;have HT2 := hid (HT1.out.far hb2)
    go_wp2
    go_meet
    exact ⟨by rw [hdb]; rfl, HT2.out⟩
  · have hdb : decide (p.den = 1) = false := by simpa using hd
    go_wp2
    go_meet
    exact ⟨by rw [hdb]; rfl, HT1.out⟩
 case rest =>
  obtain ⟨rfl, ht⟩ := hcut;have HT := hid ht;obtain ⟨y0, y1, y2, y3, y4, y5, z0, z1, z2, z3, z4, z5⟩ := ht.cells;have hR := aa ht.hr;clear ht hip0 HT0
  by_cases hd : p.den = 1 ∧ q.den = 1
  · have hdb : (decide (p.den = 1) && decide (q.den = 1)) = true := by simp [hd.1, hd.2]
    have HE : Hid ((p * q).num = p.num * q.num ∧ denI (p * q) = 0) := hid (by
     have e : p * q = ((p.num * q.num : Int) : Rat) := by rw [Rat.intCast_mul, ← int_of_den hd.1, ← int_of_den hd.2]
     exact ⟨by rw [e, Rat.num_intCast], denI_one (by rw [e, Rat.den_intCast])⟩)
    have had := mul_any _ _ p.num q.num wc (H1.out.far HT.out.bel) (H3.out.far HT.out.bel) (bV HPF.out.1 (by omega)) (bV HQF.out.1 (by omega));clear hR
    go_wp2_with fail
    refine had.mono ?_;rintro e w3 ⟨v3, rfl, hv3, hb3⟩;have HV3 := hid hv3;obtain ⟨s5, b5, a5, n5, c5, rfl⟩ := ae hv3;have HT3 := hid (HT.out.far hb3);obtain ⟨⟨r0, r1, r2, r3, r4, r5⟩, fr⟩ := ResR.cells HT3.out.hr;clear hv3 hb3 had y0 y1 y2 y3 y4 y5 z0 z1 z2 z3 z4 z5 HT
    go_wp2
    exact end_rat Tryz.results62 rfl rfl HT3.out.hr (by rw [HE.out.1]; exact HV3.out) (by rw [HE.out.2]; exact bx _) HT3.out.bel (by omega)
  · have hdb : (decide (p.den = 1) && decide (q.den = 1)) = false := by
      cases h : (decide (p.den = 1) && decide (q.den = 1)) with
      | false => rfl
      | true => simp only [Bool.and_eq_true, decide_eq_true_eq] at h; exact absurd h hd
    clear hR;have F1 : Hid (Fit p.num) := hid (bV HPF.out.1 (by omega));have F2 : Hid (Fit (q.den : Int)) := hid (bV (k := l) (by rw [Int.natAbs_natCast]; exact HQF.out.2) (by omega));have F3 : Hid (Fit q.num) := hid (bV HQF.out.1 (by omega));have F4 : Hid (Fit (p.den : Int)) := hid (bV (k := k) (by rw [Int.natAbs_natCast]; exact HPF.out.2) (by omega));have HAD := hid (mul_divInt p q);clear y0 y1 y2 y3 y4 y5 z0 z1 z2 z3 z4 z5 hip hiq;have hne1 : w.heap.size ≠ w.heap.size + 1 + 1 := by omega
    have hne2 : w.heap.size + 1 ≠ w.heap.size + 1 + 1 := by omega
    have K0 := hid HT.out.drew.cells
    go_wp2
    go_region_held3 (fun w' => w'.cell? ⟨w.heap.size, 0, none⟩ = some (.int .i64 s1) ∧ w'.cell? ⟨w.heap.size, 1, none⟩ = some (.bool b1) ∧ w'.cell? ⟨w.heap.size, 2, none⟩ = some (.slice a1 n1 c1) ∧ w'.cell? ⟨w.heap.size, 3, none⟩ = some (.int .i64 s2) ∧ w'.cell? ⟨w.heap.size, 4, none⟩ = some (.bool b2) ∧ w'.cell? ⟨w.heap.size, 5, none⟩ = some (.slice a2 n2 c2) ∧ w'.cell? ⟨w.heap.size + 1, 0, none⟩ = some (.int .i64 s3) ∧ w'.cell? ⟨w.heap.size + 1, 1, none⟩ = some (.bool b3) ∧ w'.cell? ⟨w.heap.size + 1, 2, none⟩ = some (.slice a3 n3 c3) ∧ w'.cell? ⟨w.heap.size + 1, 3, none⟩ = some (.int .i64 s4) ∧ w'.cell? ⟨w.heap.size + 1, 4, none⟩ = some (.bool b4) ∧ w'.cell? ⟨w.heap.size + 1, 5, none⟩ = some (.slice a4 n4 c4))
     (first | with_reducible exact K5.out | with_reducible exact K4.out | with_reducible exact K3.out | with_reducible exact K2.out | with_reducible exact K1.out | with_reducible exact K0.out | (obtain ⟨k0, k1, k2, k3, k4, k5, l0, l1, l2, l3, l4, l5⟩ := K5.out; exact ⟨(ak hne1 _ _ _ _ _ _ 0).trans k0, (ak hne1 _ _ _ _ _ _ 1).trans k1, (ak hne1 _ _ _ _ _ _ 2).trans k2, (ak hne1 _ _ _ _ _ _ 3).trans k3, (ak hne1 _ _ _ _ _ _ 4).trans k4, (ak hne1 _ _ _ _ _ _ 5).trans k5, (ak hne2 _ _ _ _ _ _ 0).trans l0, (ak hne2 _ _ _ _ _ _ 1).trans l1, (ak hne2 _ _ _ _ _ _ 2).trans l2, (ak hne2 _ _ _ _ _ _ 3).trans l3, (ak hne2 _ _ _ _ _ _ 4).trans l4, (ak hne2 _ _ _ _ _ _ 5).trans l5⟩))
     (first
       | (go_at_call 108; first
           | (with_reducible refine (mul_any _ _ p.num q.num _ (H1.out.far HT.out.drew.bel) (H3.out.far HT.out.drew.bel) F1.out F3.out).mono ?_
              rintro e u1 ⟨v1, rfl, hv1, hb1⟩;have T1 := hid (HT.out.drew.far hb1);have K1 := hid T1.out.cells;have V1_1 := hid hv1
              obtain ⟨e1a, e1b, e1c, e1d, e1f, rfl⟩ := ae hv1)
           | (with_reducible refine (mul_any _ _ p.den q.den _ V2_3.out V3_3.out F4.out F2.out).mono ?_
              rintro e u4 ⟨v4, rfl, hv4, hb4⟩;have T4 := hid (T3.out.far hb4);have K4 := hid T4.out.cells;have V1_4 := hid (V1_3.out.far hb4);have V2_4 := hid (V2_3.out.far hb4);have V3_4 := hid (V3_3.out.far hb4);have V4_4 := hid hv4
              obtain ⟨e4a, e4b, e4c, e4d, e4f, rfl⟩ := ae hv4))
       | (go_at_call 110; first
           | (with_reducible refine (hdp _ T1.out.bel).mono ?_
              rintro e u2 ⟨v2, rfl, hv2, hb2⟩;have T2 := hid (T1.out.far hb2);have K2 := hid T2.out.cells;have V1_2 := hid (V1_1.out.far hb2);have V2_2 := hid hv2
              obtain ⟨e2a, e2b, e2c, e2d, e2f, rfl⟩ := ae hv2)
           | (with_reducible refine (hdq _ T2.out.bel).mono ?_
              rintro e u3 ⟨v3, rfl, hv3, hb3⟩;have T3 := hid (T2.out.far hb3);have K3 := hid T3.out.cells;have V1_3 := hid (V1_2.out.far hb3);have V2_3 := hid (V2_2.out.far hb3);have V3_3 := hid hv3
              obtain ⟨e3a, e3b, e3c, e3d, e3f, rfl⟩ := ae hv3))
       | (go_at_call 109; first
           | (refine (HQ.out _ _ _ V1_4.out V4_4.out).mono ?_
              rintro e u5 ⟨v5, rfl, hv5, hb5⟩;have T5 := hid (T4.out.far hb5);have K5 := hid T5.out.cells;have V1_5 := hid (V1_4.out.far hb5);have V2_5 := hid (V2_4.out.far hb5);have V3_5 := hid (V3_4.out.far hb5);have V4_5 := hid (V4_4.out.far hb5);have V5_5 := hid hv5;obtain ⟨g51, g52, g53, g54, g55, g56, g57, g58, g59, g510, rfl, hg51, hg52⟩ := aR hv5;have HG1 := hid hg51;have HG2 := hid hg52
              obtain ⟨⟨r0, r1, r2, r3, r4, r5⟩, fr⟩ := ResR.cells T5.out.hr)))
    go_wp2
    rw [HAD.out];exact end_rat Tryz.results62 rfl rfl T5.out.hr HG1.out HG2.out T5.out.bel (by omega)
end
end Go.Proofs.YteoklapcifonaaaGreatDoor
namespace Go.Proofs.YteoklapcifonaaaGreatDoor
open Go.RowKit Nmx
/-- a rational number that came in, in block B, and an integer result in block B + 1 -/
structure OneI (w wx : World) (x0 x1 x2 x3 x4 x5 : Value) : Prop where
 ha : wx.heap[w.heap.size]? = some (.cells #[x0, x1, x2, x3, x4, x5] 85 (0, 0))
 hr : wx.heap[w.heap.size + 1]? = some (.cells #[.int .i64 0, .bool false, .slice none 0 0] 83 (0, 0))
 bel : Below w.heap.size w wx
theorem OneI.far {w wx w1 : World} {x0 x1 x2 x3 x4 x5 : Value} (h : OneI w wx x0 x1 x2 x3 x4 x5) (hb : Below wx.heap.size wx w1) : OneI w w1 x0 x1 x2 x3 x4 x5 :=
 ⟨(hb.block _ (ab h.ha)).trans h.ha, (hb.block _ (ab h.hr)).trans h.hr, h.bel.trans (hb.mono h.bel.size)⟩
theorem OneI.cells {w wx : World} {x0 x1 x2 x3 x4 x5 : Value} (h : OneI w wx x0 x1 x2 x3 x4 x5) : wx.cell? ⟨w.heap.size, 0, none⟩ = some x0 ∧ wx.cell? ⟨w.heap.size, 1, none⟩ = some x1 ∧ wx.cell? ⟨w.heap.size, 2, none⟩ = some x2 ∧ wx.cell? ⟨w.heap.size, 3, none⟩ = some x3 ∧ wx.cell? ⟨w.heap.size, 4, none⟩ = some x4 ∧ wx.cell? ⟨w.heap.size, 5, none⟩ = some x5 :=
 ⟨aa h.ha 0, aa h.ha 1, aa h.ha 2, aa h.ha 3, aa h.ha 4, aa h.ha 5⟩
theorem OneI.new (w : World) (x0 x1 x2 x3 x4 x5 : Value) (o : Obj) (ho : o = .cells #[.int .i64 0, .bool false, .slice none 0 0] 83) : OneI w ((w.alloc (.cells #[x0, x1, x2, x3, x4, x5] 85)).alloc o) x0 x1 x2 x3 x4 x5 := by
 subst ho;exact ⟨(Below.heap_alloc _ _ _ (by simp)).trans (heap_alloc_new w _), bC w _ _, below2 w _ _⟩
theorem denI_int (z : Int) : denI (z : Rat) = 0 := denI_one (Rat.den_intCast z)
theorem denI_not {q : Rat} (h : q.den ≠ 1) : denI q = q.den := by unfold denI; rw [if_neg h]
section
set_option maxRecDepth 100000
set_option maxHeartbeats 4000000
theorem ratFromInt_any (x : Value) (z : Int) (w : World) (hx : IV w x z) : Calls Tryz.prog 120 #[x] w (GetsQ (z : Rat) w) := by
 obtain ⟨s1, b1, a1, n1, c1, rfl⟩ := ae hx;have H1 := hid hx;have HR := hid (bC w (.cells #[.int .i64 s1, .bool b1, .slice a1 n1 c1] 83) (.cells #[.int .i64 0, .bool false, .slice none 0 0, .int .i64 0, .bool false, .slice none 0 0] 85));have HB := hid (below2 w (.cells #[.int .i64 s1, .bool b1, .slice a1 n1 c1] 83) (.cells #[.int .i64 0, .bool false, .slice none 0 0, .int .i64 0, .bool false, .slice none 0 0] 85));have H2 := hid (H1.out.far HB.out);clear hx
 go_enter Tryz.func120, Tryz.ntmps120
 go_upto_region 1 with fail
 have HC := hid ((Below.heap_alloc _ _ _ (by simp)).trans (heap_alloc_new w (.cells #[.int .i64 s1, .bool b1, .slice a1 n1 c1] 83)) : ((w.alloc (.cells #[.int .i64 s1, .bool b1, .slice a1 n1 c1] 83)).alloc (.cells #[.int .i64 0, .bool false, .slice none 0 0, .int .i64 0, .bool false, .slice none 0 0] 85)).heap[w.heap.size]? = some (.cells #[.int .i64 s1, .bool b1, .slice a1 n1 c1] 83 (0, 0)));generalize (w.alloc (.cells #[.int .i64 s1, .bool b1, .slice a1 n1 c1] 83)).alloc (.cells #[.int .i64 0, .bool false, .slice none 0 0, .int .i64 0, .bool false, .slice none 0 0] 85) = w1 at *;obtain ⟨k0, k1, k2, -, -, -⟩ := Cells.of HC.out;obtain ⟨⟨r0, r1, r2, r3, r4, r5⟩, fr⟩ := ResR.cells HR.out
 go_wp2
 exact end_rat Tryz.results120 rfl rfl HR.out (by rw [Rat.num_intCast]; exact H2.out) (by rw [denI_int]; exact bx _) HB.out (by omega)
theorem ratFloor_int (x : Value) (p : Rat) (w : World) (hx : RV w x p) (hd : p.den = 1) : Calls Tryz.prog 127 #[x] w (aY (flI p) w) := by
 have hi := fun W (hW : Below w.heap.size w W) => bG x p W (hx.far hW)
 rw [decide_eq_true hd] at hi;have HE : Hid (flI p = p.num) := hid (by unfold flI; rw [hd]; simp);obtain ⟨s1, b1, a1, n1, c1, s2, b2, a2, n2, c2, rfl, h1, h2⟩ := aR hx;have H1 := hid h1;have HT := hid (OneI.new w (.int .i64 s1) (.bool b1) (.slice a1 n1 c1) (.int .i64 s2) (.bool b2) (.slice a2 n2 c2) _ rfl);clear hx h1 h2 hd
 go_enter Tryz.func127, Tryz.ntmps127
 go_wp2_with fail
 refine (hi _ HT.out.bel).mono ?_;rintro e w1 ⟨rfl, hb1⟩;have HT1 := hid (HT.out.far hb1);have H2 := hid (H1.out.far HT1.out.bel);obtain ⟨k0, k1, k2, k3, k4, k5⟩ := HT1.out.cells;obtain ⟨r0, r1, r2, f0, f1, f2⟩ := Res.cells HT1.out.hr;clear hb1 hi HT H1
 go_wp2
 rw [HE.out];exact end_int Tryz.results127 rfl rfl HT1.out.hr H2.out HT1.out.bel (by omega)
theorem ratFloor_frac {k : Nat} (x : Value) (p : Rat) (w : World) (hx : RV w x p) (hd : p.den ≠ 1) (hp : RS k p) (hk : k ≤ 900) : Calls Tryz.prog 127 #[x] w (aY (flI p) w) := by
 have hi := fun W (hW : Below w.heap.size w W) => bG x p W (hx.far hW)
 rw [decide_eq_false hd] at hi;have HDN := hid (denI_not hd);have F1 : Hid (Fit p.num) := hid (bV hp.1 (by omega));have F2 : Hid (Fit (p.den : Int)) := hid (bV (k := k) (by rw [Int.natAbs_natCast]; exact hp.2) (by omega));have D0 : Hid ((p.den : Int) ≠ 0) := hid (by have := p.den_nz; omega);obtain ⟨s1, b1, a1, n1, c1, s2, b2, a2, n2, c2, rfl, h1, h2⟩ := aR hx;rw [HDN.out] at h2;have H1 := hid h1;have H2 := hid h2;have HT := hid (OneI.new w (.int .i64 s1) (.bool b1) (.slice a1 n1 c1) (.int .i64 s2) (.bool b2) (.slice a2 n2 c2) _ rfl);clear hx h1 h2 hd hp
 go_enter Tryz.func127, Tryz.ntmps127
 go_wp2_with fail
 refine (hi _ HT.out.bel).mono ?_;rintro e w1 ⟨rfl, hb1⟩;have HT1 := hid (HT.out.far hb1);have hqr := quoRem_any _ _ _ _ _ (H1.out.far HT1.out.bel) (H2.out.far HT1.out.bel) F1.out F2.out D0.out;obtain ⟨k0, k1, k2, k3, k4, k5⟩ := HT1.out.cells;clear hb1 hi HT
 go_wp2_with fail
 refine hqr.mono ?_;rintro e w2 ⟨v1, v2, rfl, hv1, hv2, hb2⟩;have HT2 := hid (HT1.out.far hb2);have HV := hid hv1;obtain ⟨s3, b3, a3, n3, c3, rfl⟩ := ae hv1;obtain ⟨s4, b4, a4, n4, c4, rfl⟩ := ae hv2;have hal : Below w2.heap.size w2 ((w2.alloc (.cells #[.int .i64 s3, .bool b3, .slice a3 n3 c3] 83)).alloc (.cells #[.int .i64 s4, .bool b4, .slice a4 n4 c4] 83)) := below2 w2 _ _;have HT3 := hid (HT2.out.far hal);have HV3 := hid (HV.out.far hal);obtain ⟨r0, r1, r2, f0, f1, f2⟩ := Res.cells HT3.out.hr;clear hv1 hv2 hb2 hqr k0 k1 k2 k3 k4 k5 HT1 HT2 hal HV
 go_wp2
 exact end_int Tryz.results127 rfl rfl HT3.out.hr HV3.out HT3.out.bel (by omega)
theorem ratFloor_any {k : Nat} (x : Value) (p : Rat) (w : World) (hx : RV w x p) (hp : RS k p) (hk : k ≤ 900) : Calls Tryz.prog 127 #[x] w (aY (flI p) w) := by
 by_cases hd : p.den = 1
 · exact ratFloor_int x p w hx hd
 · exact ratFloor_frac x p w hx hd hp hk
theorem ratCeil_any {k : Nat} (x : Value) (p : Rat) (w : World) (hx : RV w x p) (hp : RS k p) (hk : k ≤ 900) : Calls Tryz.prog 126 #[x] w (aY (ceI p) w) := by
 have hn := fun W (hW : Below w.heap.size w W) => ratNeg_any x p W (hx.far hW)
 have HPN := hid hp.neg;obtain ⟨s1, b1, a1, n1, c1, s2, b2, a2, n2, c2, rfl, h1, h2⟩ := aR hx;have HT := hid (OneI.new w (.int .i64 s1) (.bool b1) (.slice a1 n1 c1) (.int .i64 s2) (.bool b2) (.slice a2 n2 c2) _ rfl);clear hx h1 h2 hp
 go_enter Tryz.func126, Tryz.ntmps126
 go_wp2_with fail
 refine (hn _ HT.out.bel).mono ?_;rintro e w1 ⟨v1, rfl, hv1, hb1⟩;have HT1 := hid (HT.out.far hb1);have hfl := ratFloor_any v1 (-p) w1 hv1 HPN.out hk;clear hv1 hb1 hn HT
 go_wp2_with fail
 refine hfl.mono ?_;rintro e w2 ⟨v2, rfl, hv2, hb2⟩;have HT2 := hid (HT1.out.far hb2);have hng := neg_any v2 _ w2 hv2;clear hv2 hb2 hfl HT1
 go_wp2_with fail
 refine hng.mono ?_;rintro e w3 ⟨v3, rfl, hv3, hb3⟩;have HT3 := hid (HT2.out.far hb3);have HV := hid hv3;obtain ⟨s3, b3, a3, n3, c3, rfl⟩ := ae hv3;obtain ⟨r0, r1, r2, f0, f1, f2⟩ := Res.cells HT3.out.hr;clear hv3 hb3 hng HT2
 go_wp2
 exact end_int Tryz.results126 rfl rfl HT3.out.hr HV.out HT3.out.bel (by omega)
end
end Go.Proofs.YteoklapcifonaaaGreatDoor

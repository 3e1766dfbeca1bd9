/- Rat.Add of package exact. -/
import Derived.Test.YteoklapcifonaaaGreatDoorNNK
import Derived.Deep.DeepCutAuto
open Go.Lib (hid)
namespace Go.Proofs.YteoklapcifonaaaGreatDoor
open Go.RowKit Nmx
/-- Quotient does what it should at n and d -/
def QuotOk (n d : Int) : Prop := ∀ (x y : Value) (W : World), IV W x n → IV W y d → Calls Tryz.prog 109 #[x, y] W (GetsQ (Rat.divInt n d) W)
/-- sizes of rational numbers -/
def RS (k : Nat) (q : Rat) : Prop := q.num.natAbs < BB ^ k ∧ q.den < BB ^ k
theorem bb_mul {a b k l : Nat} (ha : a < BB ^ k) (hb : b < BB ^ l) : a * b < BB ^ (k + l) := by
 rw [Nat.pow_add];rcases Nat.eq_zero_or_pos b with h | h
 · subst h; rw [Nat.mul_zero]; exact Nat.mul_pos (BBp_pos _) (BBp_pos _)
 · exact Nat.mul_lt_mul_of_lt_of_le ha (Nat.le_of_lt hb) (by omega)
theorem bb_le {k l : Nat} (h : k ≤ l) : BB ^ k ≤ BB ^ l := Nat.pow_le_pow_right aO h
theorem bV {z : Int} {k : Nat} (h : z.natAbs < BB ^ k) (hk : k ≤ 1000) : Fit z := by
 obtain ⟨m, hm⟩ : ∃ m, k + m = 1000 := ⟨1000 - k, by omega⟩
 unfold Fit;rw [← hm];exact Nat.lt_of_lt_of_le h (bb_le (Nat.le_add_right _ _))
theorem fit_sum {a b : Int} {k : Nat} (ha : a.natAbs < BB ^ k) (hb : b.natAbs < BB ^ k) : (a + b).natAbs < BB ^ (k + 1) := by
 have h1 := Int.natAbs_add_le a b;have h2 : BB ^ (k + 1) = BB ^ k * BB := Nat.pow_succ ..;have h3 : BB ^ k * 2 ≤ BB ^ k * BB := Nat.mul_le_mul_left _ (by rw [aC]; omega)
 omega
theorem add_divInt (p q : Rat) : p + q = Rat.divInt (p.num * q.den + q.num * p.den) (p.den * q.den) := by
 rw [Rat.add_def', ← Rat.divInt_ofNat, Int.natCast_mul]
theorem mul_divInt (p q : Rat) : p * q = Rat.divInt (p.num * q.num) (p.den * q.den) := by
 rw [Rat.mul_def', ← Rat.divInt_ofNat, Int.natCast_mul]
theorem int_of_den {p : Rat} (h : p.den = 1) : p = (p.num : Rat) := by
 apply Rat.ext
 · rw [Rat.num_intCast]
 · rw [Rat.den_intCast, h]
/-- two rational numbers that came in, in blocks B and B + 1, and a result in block B + 2 -/
structure TwoR (w wx : World) (x0 x1 x2 x3 x4 x5 y0 y1 y2 y3 y4 y5 : Value) : Prop where
 ha : wx.heap[w.heap.size]? = some (.cells #[x0, x1, x2, x3, x4, x5] 85 (0, 0))
 hb : wx.heap[w.heap.size + 1]? = some (.cells #[y0, y1, y2, y3, y4, y5] 85 (0, 0))
 hr : wx.heap[w.heap.size + 2]? = some (.cells #[.int .i64 0, .bool false, .slice none 0 0, .int .i64 0, .bool false, .slice none 0 0] 85 (0, 0))
 bel : Below w.heap.size w wx
theorem TwoR.far {w wx w1 : World} {x0 x1 x2 x3 x4 x5 y0 y1 y2 y3 y4 y5 : Value} (h : TwoR w wx x0 x1 x2 x3 x4 x5 y0 y1 y2 y3 y4 y5) (hb : Below wx.heap.size wx w1) : TwoR w w1 x0 x1 x2 x3 x4 x5 y0 y1 y2 y3 y4 y5 :=
 ⟨(hb.block _ (ab h.ha)).trans h.ha, (hb.block _ (ab h.hb)).trans h.hb, (hb.block _ (ab h.hr)).trans h.hr, h.bel.trans (hb.mono h.bel.size)⟩
theorem TwoR.drew {w wx : World} {x0 x1 x2 x3 x4 x5 y0 y1 y2 y3 y4 y5 : Value} (h : TwoR w wx x0 x1 x2 x3 x4 x5 y0 y1 y2 y3 y4 y5) : TwoR w wx.drew x0 x1 x2 x3 x4 x5 y0 y1 y2 y3 y4 y5 := ⟨h.ha, h.hb, h.hr, h.bel.drew⟩
theorem TwoR.cells {w wx : World} {x0 x1 x2 x3 x4 x5 y0 y1 y2 y3 y4 y5 : Value} (h : TwoR w wx x0 x1 x2 x3 x4 x5 y0 y1 y2 y3 y4 y5) : wx.cell? ⟨w.heap.size, 0, none⟩ = some x0 ∧ wx.cell? ⟨w.heap.size, 1, none⟩ = some x1 ∧ wx.cell? ⟨w.heap.size, 2, none⟩ = some x2 ∧ wx.cell? ⟨w.heap.size, 3, none⟩ = some x3 ∧ wx.cell? ⟨w.heap.size, 4, none⟩ = some x4 ∧ wx.cell? ⟨w.heap.size, 5, none⟩ = some x5 ∧ wx.cell? ⟨w.heap.size + 1, 0, none⟩ = some y0 ∧ wx.cell? ⟨w.heap.size + 1, 1, none⟩ = some y1 ∧ wx.cell? ⟨w.heap.size + 1, 2, none⟩ = some y2 ∧ wx.cell? ⟨w.heap.size + 1, 3, none⟩ = some y3 ∧ wx.cell? ⟨w.heap.size + 1, 4, none⟩ = some y4 ∧ wx.cell? ⟨w.heap.size + 1, 5, none⟩ = some y5 :=
 ⟨aa h.ha 0, aa h.ha 1, aa h.ha 2, aa h.ha 3, aa h.ha 4, aa h.ha 5, aa h.hb 0, aa h.hb 1, aa h.hb 2, aa h.hb 3, aa h.hb 4, aa h.hb 5⟩
theorem TwoR.new (w : World) (x0 x1 x2 x3 x4 x5 y0 y1 y2 y3 y4 y5 : Value) (o : Obj) (ho : o = .cells #[.int .i64 0, .bool false, .slice none 0 0, .int .i64 0, .bool false, .slice none 0 0] 85) : TwoR w (((w.alloc (.cells #[x0, x1, x2, x3, x4, x5] 85)).alloc (.cells #[y0, y1, y2, y3, y4, y5] 85)).alloc o) x0 x1 x2 x3 x4 x5 y0 y1 y2 y3 y4 y5 := by
 subst ho;obtain ⟨h1, h2, h3⟩ := new3 w (.cells #[x0, x1, x2, x3, x4, x5] 85) (.cells #[y0, y1, y2, y3, y4, y5] 85) (.cells #[.int .i64 0, .bool false, .slice none 0 0, .int .i64 0, .bool false, .slice none 0 0] 85);exact ⟨h1, h2, h3, below3 w _ _ _⟩
theorem denI_one {q : Rat} (h : q.den = 1) : denI q = 0 := by unfold denI; rw [if_pos h]
section
set_option maxRecDepth 100000
set_option maxHeartbeats 4000000
theorem ratAdd_any {k l : Nat} (x y : Value) (p q : Rat) (w : World) (hx : RV w x p) (hy : RV w y q) (hp : RS k p) (hq : RS l q) (hkl : k + l ≤ 900) (hQ : QuotOk (p.num * q.den + q.num * p.den) (p.den * q.den)) : Calls Tryz.prog 95 #[x, y] w (GetsQ (p + q) w) := by
 have hip := fun W (hW : Below w.heap.size w W) => bG x p W (hx.far hW)
 have hiq := fun W (hW : Below w.heap.size w W) => bG y q W (hy.far hW)
 have hdp := fun W (hW : Below w.heap.size w W) => ratDen_any x p W (hx.far hW)
 have hdq := fun W (hW : Below w.heap.size w W) => ratDen_any y q W (hy.far hW)
 obtain ⟨s1, b1, a1, n1, c1, s2, b2, a2, n2, c2, rfl, h1, h2⟩ := aR hx;obtain ⟨s3, b3, a3, n3, c3, s4, b4, a4, n4, c4, rfl, h3, h4⟩ := aR hy;have H1 := hid h1;have H3 := hid h3;have HT0 := hid (TwoR.new w (.int .i64 s1) (.bool b1) (.slice a1 n1 c1) (.int .i64 s2) (.bool b2) (.slice a2 n2 c2) (.int .i64 s3) (.bool b3) (.slice a3 n3 c3) (.int .i64 s4) (.bool b4) (.slice a4 n4 c4) _ rfl);have HPF := hid hp;have HQF := hid hq;have HQ := hid hQ;have hip0 := hip _ HT0.out.bel;clear hx hy h1 h2 h3 h4 hp hq hQ
 go_enter Tryz.func95, Tryz.ntmps95
 go_upto_region 1 with fail
 go_cut [10] (fun cv wx => cv = .bool (decide (p.den = 1) && decide (q.den = 1)) ∧ TwoR w wx (.int .i64 s1) (.bool b1) (.slice a1 n1 c1) (.int .i64 s2) (.bool b2) (.slice a2 n2 c2) (.int .i64 s3) (.bool b3) (.slice a3 n3 c3) (.int .i64 s4) (.bool b4) (.slice a4 n4 c4))
 case first =>
  go_wp2_with fail
  refine hip0.mono ?_;rintro e w1 ⟨rfl, hb1⟩;have HT1 := hid (HT0.out.far hb1);have hiq1 := hiq w1 HT1.out.bel;obtain ⟨y0, y1, y2, y3, y4, y5, z0, z1, z2, z3, z4, z5⟩ := HT1.out.cells;clear hb1 hip0
  by_cases hd : p.den = 1
  · have hdb : decide (p.den = 1) = true := by simpa using hd
    go_wp2_with fail
    refine hiq1.mono ?_;rintro e w2 ⟨rfl, hb2⟩;have HT2 := hid (HT1.out.far hb2)
    go_wp2
    go_meet
    exact ⟨by rw [hdb]; rfl, HT2.out⟩
  · have hdb : decide (p.den = 1) = false := by simpa using hd
    go_wp2
    go_meet
    exact ⟨by rw [hdb]; rfl, HT1.out⟩
 case rest =>
  obtain ⟨rfl, ht⟩ := hcut;have HT := hid ht;obtain ⟨y0, y1, y2, y3, y4, y5, z0, z1, z2, z3, z4, z5⟩ := ht.cells;have hR := aa ht.hr;clear ht hip0 HT0
  by_cases hd : p.den = 1 ∧ q.den = 1
  · have hdb : (decide (p.den = 1) && decide (q.den = 1)) = true := by simp [hd.1, hd.2]
    have HE : Hid ((p + q).num = p.num + q.num ∧ denI (p + q) = 0) := hid (by
     have e : p + q = ((p.num + q.num : Int) : Rat) := by rw [Rat.intCast_add, ← int_of_den hd.1, ← int_of_den hd.2]
     exact ⟨by rw [e, Rat.num_intCast], denI_one (by rw [e, Rat.den_intCast])⟩)
    have had := add_any _ _ p.num q.num wc (H1.out.far HT.out.bel) (H3.out.far HT.out.bel) (bV HPF.out.1 (by omega)) (bV HQF.out.1 (by omega));clear hR
    go_wp2_with fail
    refine had.mono ?_;rintro e w3 ⟨v3, rfl, hv3, hb3⟩;have HV3 := hid hv3;obtain ⟨s5, b5, a5, n5, c5, rfl⟩ := ae hv3;have HT3 := hid (HT.out.far hb3);obtain ⟨⟨r0, r1, r2, r3, r4, r5⟩, fr⟩ := ResR.cells HT3.out.hr;clear hv3 hb3 had y0 y1 y2 y3 y4 y5 z0 z1 z2 z3 z4 z5 HT
    go_wp2
    exact end_rat Tryz.results95 rfl rfl HT3.out.hr (by rw [HE.out.1]; exact HV3.out) (by rw [HE.out.2]; exact bx _) HT3.out.bel (by omega)
  · have hdb : (decide (p.den = 1) && decide (q.den = 1)) = false := by
      cases h : (decide (p.den = 1) && decide (q.den = 1)) with
      | false => rfl
      | true => simp only [Bool.and_eq_true, decide_eq_true_eq] at h; exact absurd h hd
    clear hR;have F1 : Hid (Fit p.num) := hid (bV HPF.out.1 (by omega));have F2 : Hid (Fit (q.den : Int)) := hid (bV (k := l) (by rw [Int.natAbs_natCast]; exact HQF.out.2) (by omega));have F3 : Hid (Fit q.num) := hid (bV HQF.out.1 (by omega));have F4 : Hid (Fit (p.den : Int)) := hid (bV (k := k) (by rw [Int.natAbs_natCast]; exact HPF.out.2) (by omega));have F5 : Hid (Fit (p.num * q.den)) := hid (bV (k := k + l) (by rw [Int.natAbs_mul, Int.natAbs_natCast]; exact bb_mul HPF.out.1 HQF.out.2) (by omega));have F6 : Hid (Fit (q.num * p.den)) := hid (bV (k := l + k) (by rw [Int.natAbs_mul, Int.natAbs_natCast]; exact bb_mul HQF.out.1 HPF.out.2) (by omega));have HAD := hid (add_divInt p q);clear y0 y1 y2 y3 y4 y5 z0 z1 z2 z3 z4 z5 hip hiq;have hne1 : w.heap.size ≠ w.heap.size + 1 + 1 := by omega
    have hne2 : w.heap.size + 1 ≠ w.heap.size + 1 + 1 := by omega
    have K0 := hid HT.out.drew.cells
    go_wp2
    go_region_held3 (fun w' => w'.cell? ⟨w.heap.size, 0, none⟩ = some (.int .i64 s1) ∧ w'.cell? ⟨w.heap.size, 1, none⟩ = some (.bool b1) ∧ w'.cell? ⟨w.heap.size, 2, none⟩ = some (.slice a1 n1 c1) ∧ w'.cell? ⟨w.heap.size, 3, none⟩ = some (.int .i64 s2) ∧ w'.cell? ⟨w.heap.size, 4, none⟩ = some (.bool b2) ∧ w'.cell? ⟨w.heap.size, 5, none⟩ = some (.slice a2 n2 c2) ∧ w'.cell? ⟨w.heap.size + 1, 0, none⟩ = some (.int .i64 s3) ∧ w'.cell? ⟨w.heap.size + 1, 1, none⟩ = some (.bool b3) ∧ w'.cell? ⟨w.heap.size + 1, 2, none⟩ = some (.slice a3 n3 c3) ∧ w'.cell? ⟨w.heap.size + 1, 3, none⟩ = some (.int .i64 s4) ∧ w'.cell? ⟨w.heap.size + 1, 4, none⟩ = some (.bool b4) ∧ w'.cell? ⟨w.heap.size + 1, 5, none⟩ = some (.slice a4 n4 c4))
     (first | with_reducible exact K9.out | with_reducible exact K8.out | with_reducible exact K7.out | with_reducible exact K6.out | with_reducible exact K5.out | with_reducible exact K4.out | with_reducible exact K3.out | with_reducible exact K2.out | with_reducible exact K1.out | with_reducible exact K0.out | (obtain ⟨k0, k1, k2, k3, k4, k5, l0, l1, l2, l3, l4, l5⟩ := K9.out; exact ⟨(ak hne1 _ _ _ _ _ _ 0).trans k0, (ak hne1 _ _ _ _ _ _ 1).trans k1, (ak hne1 _ _ _ _ _ _ 2).trans k2, (ak hne1 _ _ _ _ _ _ 3).trans k3, (ak hne1 _ _ _ _ _ _ 4).trans k4, (ak hne1 _ _ _ _ _ _ 5).trans k5, (ak hne2 _ _ _ _ _ _ 0).trans l0, (ak hne2 _ _ _ _ _ _ 1).trans l1, (ak hne2 _ _ _ _ _ _ 2).trans l2, (ak hne2 _ _ _ _ _ _ 3).trans l3, (ak hne2 _ _ _ _ _ _ 4).trans l4, (ak hne2 _ _ _ _ _ _ 5).trans l5⟩))
     (first
       | (go_at_call 110
          first
       | (with_reducible refine (hdq _ HT.out.drew.bel).mono ?_
          rintro e u1 ⟨v1, rfl, hv1, hb1⟩;have T1 := hid (HT.out.drew.far hb1);have K1 := hid T1.out.cells;have V1 := hid hv1
          obtain ⟨e1a, e1b, e1c, e1d, e1f, rfl⟩ := ae hv1)
       | (with_reducible refine (hdp _ T2.out.bel).mono ?_
          rintro e u3 ⟨v3, rfl, hv3, hb3⟩;have T3 := hid (T2.out.far hb3);have K3 := hid T3.out.cells;have V3 := hid hv3;have V2a := hid (V2.out.far hb3)
          obtain ⟨e3a, e3b, e3c, e3d, e3f, rfl⟩ := ae hv3)
       | (with_reducible refine (hdp _ T5.out.bel).mono ?_
          rintro e u6 ⟨v6, rfl, hv6, hb6⟩;have T6 := hid (T5.out.far hb6);have K6 := hid T6.out.cells;have V6 := hid hv6;have V5a := hid (V5.out.far hb6)
          obtain ⟨e6a, e6b, e6c, e6d, e6f, rfl⟩ := ae hv6)
       | (with_reducible refine (hdq _ T6.out.bel).mono ?_
          rintro e u7 ⟨v7, rfl, hv7, hb7⟩;have T7 := hid (T6.out.far hb7);have K7 := hid T7.out.cells;have V7 := hid hv7;have V5b := hid (V5a.out.far hb7);have V6a := hid (V6.out.far hb7)
          obtain ⟨e7a, e7b, e7c, e7d, e7f, rfl⟩ := ae hv7))
       | (go_at_call 108
          first
       | (with_reducible refine (mul_any _ _ p.num q.den _ (H1.out.far T1.out.bel) V1.out F1.out F2.out).mono ?_
          rintro e u2 ⟨v2, rfl, hv2, hb2⟩;have T2 := hid (T1.out.far hb2);have K2 := hid T2.out.cells;have V2 := hid hv2
          obtain ⟨e2a, e2b, e2c, e2d, e2f, rfl⟩ := ae hv2)
       | (with_reducible refine (mul_any _ _ q.num p.den _ (H3.out.far T3.out.bel) V3.out F3.out F4.out).mono ?_
          rintro e u4 ⟨v4, rfl, hv4, hb4⟩;have T4 := hid (T3.out.far hb4);have K4 := hid T4.out.cells;have V4 := hid hv4;have V2b := hid (V2a.out.far hb4)
          obtain ⟨e4a, e4b, e4c, e4d, e4f, rfl⟩ := ae hv4)
       | (with_reducible refine (mul_any _ _ p.den q.den _ V6a.out V7.out F4.out F2.out).mono ?_
          rintro e u8 ⟨v8, rfl, hv8, hb8⟩;have T8 := hid (T7.out.far hb8);have K8 := hid T8.out.cells;have V8 := hid hv8;have V5c := hid (V5b.out.far hb8)
          obtain ⟨e8a, e8b, e8c, e8d, e8f, rfl⟩ := ae hv8))
       | (go_at_call 128
          refine (add_any _ _ (p.num * q.den) (q.num * p.den) _ V2b.out V4.out F5.out F6.out).mono ?_;rintro e u5 ⟨v5, rfl, hv5, hb5⟩;have T5 := hid (T4.out.far hb5);have K5 := hid T5.out.cells;have V5 := hid hv5
          obtain ⟨e5a, e5b, e5c, e5d, e5f, rfl⟩ := ae hv5)
       | (go_at_call 109
          refine (HQ.out _ _ _ V5c.out V8.out).mono ?_;rintro e u9 ⟨v9, rfl, hv9, hb9⟩;have T9 := hid (T8.out.far hb9);have K9 := hid T9.out.cells;have V9 := hid hv9;obtain ⟨g1, g2, g3, g4, g5, g6, g7, g8, g9, g10, rfl, hg1, hg2⟩ := aR hv9;have HG1 := hid hg1;have HG2 := hid hg2
          obtain ⟨⟨r0, r1, r2, r3, r4, r5⟩, fr⟩ := ResR.cells T9.out.hr))
    go_wp2
    rw [HAD.out];exact end_rat Tryz.results95 rfl rfl T9.out.hr HG1.out HG2.out T9.out.bel (by omega)
end
end Go.Proofs.YteoklapcifonaaaGreatDoor
namespace Go.Proofs.YteoklapcifonaaaGreatDoor
open Go.RowKit Nmx
end Go.Proofs.YteoklapcifonaaaGreatDoor
namespace Go.Proofs.YteoklapcifonaaaGreatDoor
open Go.RowKit Nmx
section
set_option maxRecDepth 100000
set_option maxHeartbeats 4000000
theorem numValid_any (s : ByteArray) (w : World) (hs : s.size ≤ 1000000) (h : Env w) (hg : GcdAt s.data.toList) : Calls Tryz.prog 54 #[.string s] w fun e w' => e = .returned (.bool (ap s.data.toList).isSome) ∧ Below w.heap.size w w' := by
 have hp := parse_env s w hs h hg;unfold bD at hp;generalize ap s.data.toList = oq at *
 go_enter Tryz.func54, Tryz.ntmps54
 go_wp2_with fail
 refine hp.mono ?_;rintro e w1 ⟨v, rfl, hv, hb1⟩;obtain ⟨s1, b1, a1, n1, c1, s2, b2, a2, n2, c2, rfl, -, -⟩ := aR hv;have HB := hid hb1;clear hv hp hb1
 go_wp2
 go_ret
 exact ⟨rfl, HB.out.alloc HB.out.size _⟩
end
end Go.Proofs.YteoklapcifonaaaGreatDoor
namespace Go.Proofs.YteoklapcifonaaaGreatDoor
open Go.RowKit Nmx
end Go.Proofs.YteoklapcifonaaaGreatDoor
namespace Go.Proofs.YteoklapcifonaaaGreatDoor
open Go.RowKit Nmx
end Go.Proofs.YteoklapcifonaaaGreatDoor
namespace Go.Proofs.YteoklapcifonaaaGreatDoor
open Go.RowKit Nmx
end Go.Proofs.YteoklapcifonaaaGreatDoor

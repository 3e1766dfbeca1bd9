/- (Rat).Div: out of layer number's text NS. -/
import Derived.Test.YteoklapcifonaaaGreatDoorWNS
import Derived.Test.YteoklapcifonaaaGreatDoorWPE
import Derived.Test.YteoklapcifonaaaGreatDoorWMC
namespace Go.Proofs.YteoklapcifonaaaGreatDoor
open Go.RowKit Nmx
theorem quotOk_frac {k l : Nat} {p q : Rat} (hp : RS k p) (hq : RS l q) (hkl : k + l ≤ 900) (h0 : q.num ≠ 0) : QuotOk (p.num * q.den) (p.den * q.num) := by
  have h1 : (p.num * q.den).natAbs < BB ^ (k + l) := by rw [Int.natAbs_mul, Int.natAbs_natCast]; exact bb_mul hp.1 hq.2
  have h3 : ((p.den : Int) * q.num).natAbs < BB ^ (k + l) := by rw [Int.natAbs_mul, Int.natAbs_natCast]; exact bb_mul hp.2 hq.1
  exact quotOk_any (fit_of h1 (by omega)) (fit_of h3 (by omega)) (Int.mul_ne_zero (by have := p.den_nz; omega) h0)
theorem div_divInt (p q : Rat) : p / q = Rat.divInt (p.num * q.den) (p.den * q.num) := by
  rw [Rat.div_def]
  have h1 : q⁻¹ = Rat.divInt q.den q.num := by
    conv => lhs; rw [← Rat.num_divInt_den q]
    rw [Rat.inv_divInt]
  rw [h1]
  conv => lhs; rw [← Rat.num_divInt_den p]
  rw [Rat.divInt_mul_divInt]

section
set_option maxRecDepth 100000
set_option maxHeartbeats 4000000
theorem ratDiv_any {k l : Nat} (x y : Value) (p q : Rat) (w : World) (hx : RV w x p) (hy : RV w y q) (hp : RS k p) (hq : RS l q) (hkl : k + l ≤ 900) (h0 : q.num ≠ 0) : Calls Tryz.prog 97 #[x, y] w (GetsQ (p / q) w) := by
  have hdp := fun W (hW : Below w.heap.size w W) => ratDen_any x p W (hx.far hW)
  have hdq := fun W (hW : Below w.heap.size w W) => ratDen_any y q W (hy.far hW)
  obtain ⟨s1, b1, a1, n1, c1, s2, b2, a2, n2, c2, rfl, h1, h2⟩ := rv_form hx;obtain ⟨s3, b3, a3, n3, c3, s4, b4, a4, n4, c4, rfl, h3, h4⟩ := rv_form hy;have H1 := Lib.hid h1;have H3 := Lib.hid h3;have HT0 := Lib.hid (TwoR.new w (.int .i64 s1) (.bool b1) (.slice a1 n1 c1) (.int .i64 s2) (.bool b2) (.slice a2 n2 c2) (.int .i64 s3) (.bool b3) (.slice a3 n3 c3) (.int .i64 s4) (.bool b4) (.slice a4 n4 c4) _ rfl);have HPF := Lib.hid hp;have HQF := Lib.hid hq;have hne1 : w.heap.size ≠ w.heap.size + 1 + 1 := by omega
  have hne2 : w.heap.size + 1 ≠ w.heap.size + 1 + 1 := by omega
  have F1 : Hid (Fit p.num) := Lib.hid (fit_of HPF.out.1 (by omega));have F2 : Hid (Fit (q.den : Int)) := Lib.hid (fit_of (k := l) (by rw [Int.natAbs_natCast]; exact HQF.out.2) (by omega));have F3 : Hid (Fit q.num) := Lib.hid (fit_of HQF.out.1 (by omega));have F4 : Hid (Fit (p.den : Int)) := Lib.hid (fit_of (k := k) (by rw [Int.natAbs_natCast]; exact HPF.out.2) (by omega));have HQ := Lib.hid (quotOk_frac hp hq hkl h0);have HAD := Lib.hid (div_divInt p q);clear hx hy h1 h2 h3 h4 hp hq h0;have HT := HT0;have K0 := Lib.hid HT.out.drew.cells;clear HT0
  go_enter Tryz.func97, Tryz.ntmps97
  go_wp2
  go_region_held3 (fun w' => w'.cell? ⟨w.heap.size, 0, none⟩ = some (.int .i64 s1) ∧ w'.cell? ⟨w.heap.size, 1, none⟩ = some (.bool b1) ∧ w'.cell? ⟨w.heap.size, 2, none⟩ = some (.slice a1 n1 c1) ∧ w'.cell? ⟨w.heap.size, 3, none⟩ = some (.int .i64 s2) ∧ w'.cell? ⟨w.heap.size, 4, none⟩ = some (.bool b2) ∧ w'.cell? ⟨w.heap.size, 5, none⟩ = some (.slice a2 n2 c2) ∧ w'.cell? ⟨w.heap.size + 1, 0, none⟩ = some (.int .i64 s3) ∧ w'.cell? ⟨w.heap.size + 1, 1, none⟩ = some (.bool b3) ∧ w'.cell? ⟨w.heap.size + 1, 2, none⟩ = some (.slice a3 n3 c3) ∧ w'.cell? ⟨w.heap.size + 1, 3, none⟩ = some (.int .i64 s4) ∧ w'.cell? ⟨w.heap.size + 1, 4, none⟩ = some (.bool b4) ∧ w'.cell? ⟨w.heap.size + 1, 5, none⟩ = some (.slice a4 n4 c4))
    (first | with_reducible exact K5.out | with_reducible exact K4.out | with_reducible exact K3.out | with_reducible exact K2.out | with_reducible exact K1.out | with_reducible exact K0.out | (obtain ⟨k0, k1, k2, k3, k4, k5, l0, l1, l2, l3, l4, l5⟩ := K5.out; exact ⟨(cell_set6 hne1 _ _ _ _ _ _ 0).trans k0, (cell_set6 hne1 _ _ _ _ _ _ 1).trans k1, (cell_set6 hne1 _ _ _ _ _ _ 2).trans k2, (cell_set6 hne1 _ _ _ _ _ _ 3).trans k3, (cell_set6 hne1 _ _ _ _ _ _ 4).trans k4, (cell_set6 hne1 _ _ _ _ _ _ 5).trans k5, (cell_set6 hne2 _ _ _ _ _ _ 0).trans l0, (cell_set6 hne2 _ _ _ _ _ _ 1).trans l1, (cell_set6 hne2 _ _ _ _ _ _ 2).trans l2, (cell_set6 hne2 _ _ _ _ _ _ 3).trans l3, (cell_set6 hne2 _ _ _ _ _ _ 4).trans l4, (cell_set6 hne2 _ _ _ _ _ _ 5).trans l5⟩))
    (first
      | (go_at_call 110; first
          | (with_reducible refine (hdq _ HT.out.drew.bel).mono ?_
             rintro e u1 ⟨v1, rfl, hv1, hb1⟩;have T1 := Lib.hid (HT.out.drew.far hb1);have K1 := Lib.hid T1.out.cells;have V1_1 := Lib.hid hv1
             obtain ⟨e1a, e1b, e1c, e1d, e1f, rfl⟩ := iv_form hv1)
          | (with_reducible refine (hdp _ T2.out.bel).mono ?_
             rintro e u3 ⟨v3, rfl, hv3, hb3⟩;have T3 := Lib.hid (T2.out.far hb3);have K3 := Lib.hid T3.out.cells;have V1_3 := Lib.hid (V1_2.out.far hb3);have V2_3 := Lib.hid (V2_2.out.far hb3);have V3_3 := Lib.hid hv3
             obtain ⟨e3a, e3b, e3c, e3d, e3f, rfl⟩ := iv_form hv3))
      | (go_at_call 108; first
          | (with_reducible refine (mul_any _ _ p.num q.den _ (H1.out.far T1.out.bel) V1_1.out F1.out F2.out).mono ?_
             rintro e u2 ⟨v2, rfl, hv2, hb2⟩;have T2 := Lib.hid (T1.out.far hb2);have K2 := Lib.hid T2.out.cells;have V1_2 := Lib.hid (V1_1.out.far hb2);have V2_2 := Lib.hid hv2
             obtain ⟨e2a, e2b, e2c, e2d, e2f, rfl⟩ := iv_form hv2)
          | (with_reducible refine (mul_any _ _ p.den q.num _ V3_3.out (H3.out.far T3.out.bel) F4.out F3.out).mono ?_
             rintro e u4 ⟨v4, rfl, hv4, hb4⟩;have T4 := Lib.hid (T3.out.far hb4);have K4 := Lib.hid T4.out.cells;have V1_4 := Lib.hid (V1_3.out.far hb4);have V2_4 := Lib.hid (V2_3.out.far hb4);have V3_4 := Lib.hid (V3_3.out.far hb4);have V4_4 := Lib.hid hv4
             obtain ⟨e4a, e4b, e4c, e4d, e4f, rfl⟩ := iv_form hv4))
      | (go_at_call 109; first
          | (refine (HQ.out _ _ _ V2_4.out V4_4.out).mono ?_
             rintro e u5 ⟨v5, rfl, hv5, hb5⟩;have T5 := Lib.hid (T4.out.far hb5);have K5 := Lib.hid T5.out.cells;have V1_5 := Lib.hid (V1_4.out.far hb5);have V2_5 := Lib.hid (V2_4.out.far hb5);have V3_5 := Lib.hid (V3_4.out.far hb5);have V4_5 := Lib.hid (V4_4.out.far hb5);have V5_5 := Lib.hid hv5;obtain ⟨g51, g52, g53, g54, g55, g56, g57, g58, g59, g510, rfl, hg51, hg52⟩ := rv_form hv5;have HG1 := Lib.hid hg51;have HG2 := Lib.hid hg52
             obtain ⟨⟨r0, r1, r2, r3, r4, r5⟩, fr⟩ := ResR.cells T5.out.hr)))
  go_wp2
  rw [HAD.out];exact end_rat Tryz.results97 rfl rfl T5.out.hr HG1.out HG2.out T5.out.bel (by omega)
end
end Go.Proofs.YteoklapcifonaaaGreatDoor
/- Holds at any drawn constraint. -/
namespace Go.Proofs.YteoklapcifonaaaGreatDoor
open Go.RowKit Nmx

/-- the truth of a constraint whose expression has the value x -/
def holdF (r : Int) (M : Option Int) (x : Rat) : Bool := match M with
  | none => cmpF r x
  | some m => decide ((x / (m : Rat)).den = 1) == (r == 4)
/-- the boxes of Holds: the constraint, the value -/
structure HB (w W : World) (r s : Int) (a1 : Option Addr) (n1 c1 : Nat) (t1 tm : ByteArray) : Prop where
  a : W.heap[w.heap.size]? = some (.cells #[.int .i64 r, .int .i64 s, .slice a1 n1 c1, .string t1, .string tm] 39 (0, 0))
  bel : Below w.heap.size w W
theorem HB.far {w W W' : World} {r s : Int} {a1 : Option Addr} {n1 c1 : Nat} {t1 tm : ByteArray} (h : HB w W r s a1 n1 c1 t1 tm) (hb : Below W.heap.size W W') : HB w W' r s a1 n1 c1 t1 tm :=
  ⟨(hb.block _ (lt_of_heap h.a)).trans h.a, h.bel.trans (hb.mono h.bel.size)⟩
end Go.Proofs.YteoklapcifonaaaGreatDoor

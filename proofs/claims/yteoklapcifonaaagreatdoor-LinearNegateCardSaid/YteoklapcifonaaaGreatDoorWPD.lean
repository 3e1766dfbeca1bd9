/- (Rat).Div: out of layer number's text NS. -/
import Derived.Test.YteoklapcifonaaaGreatDoorWNS
import Derived.Test.YteoklapcifonaaaGreatDoorWPE
import Derived.Test.YteoklapcifonaaaGreatDoorWMC
namespace Go.Proofs.YteoklapcifonaaaGreatDoor
open Go.RowKit Nmx
theorem quotOk_frac {k l : Nat} {p q : Rat} (hp : RS k p) (hq : RS l q) (hkl : k + l ≤ 900) (h0 : q.num ≠ 0) : QuotOk (p.num * q.den) (p.den * q.num) := by
  have h1 : (p.num * q.den).natAbs < BB ^ (k + l) := by rw [Int.natAbs_mul, Int.natAbs_natCast]; exact bb_mul hp.1 hq.2
  have h3 : ((p.den : Int) * q.num).natAbs < BB ^ (k + l) := by rw [Int.natAbs_mul, Int.natAbs_natCast]; exact bb_mul hp.2 hq.1
  exact quotOk_any (fit_of h1 (by omega)) (fit_of h3 (by omega)) (Int.mul_ne_zero (by have := p.den_nz; omega) h0)
theorem div_divInt (p q : Rat) : p / q = Rat.divInt (p.num * q.den) (p.den * q.num) := by
  rw [Rat.div_def]
  have h1 : q⁻¹ = Rat.divInt q.den q.num := by
    conv => lhs; rw [← Rat.num_divInt_den q]
    rw [Rat.inv_divInt]
  rw [h1]
  conv => lhs; rw [← Rat.num_divInt_den p]
  rw [Rat.divInt_mul_divInt]

section
set_option maxRecDepth 100000
set_option maxHeartbeats 4000000
theorem ratDiv_any {k l : Nat} (x y : Value) (p q : Rat) (w : World) (hx : RV w x p) (hy : RV w y q) (hp : RS k p) (hq : RS l q) (hkl : k + l ≤ 900) (h0 : q.num ≠ 0) : Calls Tryz.prog 97 #[x, y] w (GetsQ (p / q) w) := by
  have hdp := fun W (hW : Below w.heap.size w W) => ratDen_any x p W (hx.far hW)
  have hdq := fun W (hW : Below w.heap.size w W) => ratDen_any y q W (hy.far hW)
  obtain ⟨s1, b1, a1, n1, c1, s2, b2, a2, n2, c2, rfl, h1, h2⟩ := rv_form hx;obtain ⟨s3, b3, a3, n3, c3, s4, b4, a4, n4, c4, rfl, h3, h4⟩ := rv_form hy;have H1 := Lib.hid h1;have H3 := Lib.hid h3;have HT0 := Lib.hid (TwoR.new w (.int .i64 s1) (.bool b1) (.slice a1 n1 c1) (.int .i64 s2) (.bool b2) (.slice a2 n2 c2) (.int .i64 s3) (.bool b3) (.slice a3 n3 c3) (.int .i64 s4) (.bool b4) (.slice a4 n4 c4) _ rfl);have HPF := Lib.hid hp;have HQF := Lib.hid hq;have hne1 : w.heap.size ≠ w.heap.size + 1 + 1 := by omega
  have hne2 : w.heap.size + 1 ≠ w.heap.size + 1 + 1 := by omega
  have F1 : Hid (Fit p.num) := Lib.hid (fit_of HPF.out.1 (by omega));have F2 : Hid (Fit (q.den : Int)) := Lib.hid (fit_of (k := l) (by rw [Int.natAbs_natCast]; exact HQF.out.2) (by omega));have F3 : Hid (Fit q.num) := Lib.hid (fit_of HQF.out.1 (by omega));have F4 : Hid (Fit (p.den : Int)) := Lib.hid (fit_of (k := k) (by rw [Int.natAbs_natCast]; exact HPF.out.2) (by omega));have HQ := Lib.hid (quotOk_frac hp hq hkl h0);have HAD := Lib.hid (div_divInt p q);clear hx hy h1 h2 h3 h4 hp hq h0;have HT := HT0;have K0 := Lib.hid HT.out.drew.cells;clear HT0
  go_enter Tryz.func97, Tryz.ntmps97
  go_wp2
  go_region_held3 (fun w' => w'.cell? ⟨w.heap.size, 0, none⟩ = some (.int .i64 s1) ∧ w'.cell? ⟨w.heap.size, 1, none⟩ = some (.bool b1) ∧ w'.cell? ⟨w.heap.size, 2, none⟩ = some (.slice a1 n1 c1) ∧ w'.cell? ⟨w.heap.size, 3, none⟩ = some (.int .i64 s2) ∧ w'.cell? ⟨w.heap.size, 4, none⟩ = some (.bool b2) ∧ w'.cell? ⟨w.heap.size, 5, none⟩ = some (.slice a2 n2 c2) ∧ w'.cell? ⟨w.heap.size + 1, 0, none⟩ = some (.int .i64 s3) ∧ w'.cell? ⟨w.heap.size + 1, 1, none⟩ = some (.bool b3) ∧ w'.cell? ⟨w.heap.size + 1, 2, none⟩ = some (.slice a3 n3 c3) ∧ w'.cell? ⟨w.heap.size + 1, 3, none⟩ = some (.int .i64 s4) ∧ w'.cell? ⟨w.heap.size + 1, 4, none⟩ = some (.bool b4) ∧ w'.cell? ⟨w.heap.size + 1, 5, none⟩ = some (.slice a4 n4 c4))
    (first | with_reducible exact K5.out | with_reducible exact K4.out | with_reducible exact K3.out | with_reducible exact K2.out | with_reducible exact K1.out | with_reducible exact K0.out | (obtain ⟨k0, k1, k2, k3, k4, k5, l0, l1, l2, l3, l4, l5⟩ := K5.out; exact ⟨(cell_set6 hne1 _ _ _ _ _ _ 0).trans k0, (cell_set6 hne1 _ _ _ _ _ _ 1).trans k1, (cell_set6 hne1 _ _ _ _ _ _ 2).trans k2, (cell_set6 hne1 _ _ _ _ _ _ 3).trans k3, (cell_set6 hne1 _ _ _ _ _ _ 4).trans k4, (cell_set6 hne1 _ _ _ _ _ _ 5).trans k5, (cell_set6 hne2 _ _ _ _ _ _ 0).trans l0, (cell_set6 hne2 _ _ _ _ _ _ 1).trans l1, (cell_set6 hne2 _ _ _ _ _ _ 2).trans l2, (cell_set6 hne2 _ _ _ _ _ _ 3).trans l3, (cell_set6 hne2 _ _ _ _ _ _ 4).trans l4, (cell_set6 hne2 _ _ _ _ _ _ 5).trans l5⟩))
    (first
      | (go_at_call 110; first
          | (with_reducible refine (hdq _ HT.out.drew.bel).mono ?_
             rintro e u1 ⟨v1, rfl, hv1, hb1⟩;have T1 := Lib.hid (HT.out.drew.far hb1);have K1 := Lib.hid T1.out.cells;have V1_1 := Lib.hid hv1
             obtain ⟨e1a, e1b, e1c, e1d, e1f, rfl⟩ := iv_form hv1)
          | (with_reducible refine (hdp _ T2.out.bel).mono ?_
             rintro e u3 ⟨v3, rfl, hv3, hb3⟩;have T3 := Lib.hid (T2.out.far hb3);have K3 := Lib.hid T3.out.cells;have V1_3 := Lib.hid (V1_2.out.far hb3);have V2_3 := Lib.hid (V2_2.out.far hb3);have V3_3 := Lib.hid hv3
             obtain ⟨e3a, e3b, e3c, e3d, e3f, rfl⟩ := iv_form hv3))
      | (go_at_call 108; first
          | (with_reducible refine (mul_any _ _ p.num q.den _ (H1.out.far T1.out.bel) V1_1.out F1.out F2.out).mono ?_
             rintro e u2 ⟨v2, rfl, hv2, hb2⟩;have T2 := Lib.hid (T1.out.far hb2);have K2 := Lib.hid T2.out.cells;have V1_2 := Lib.hid (V1_1.out.far hb2);have V2_2 := Lib.hid hv2
             obtain ⟨e2a, e2b, e2c, e2d, e2f, rfl⟩ := iv_form hv2)
          | (with_reducible refine (mul_any _ _ p.den q.num _ V3_3.out (H3.out.far T3.out.bel) F4.out F3.out).mono ?_
             rintro e u4 ⟨v4, rfl, hv4, hb4⟩;have T4 := Lib.hid (T3.out.far hb4);have K4 := Lib.hid T4.out.cells;have V1_4 := Lib.hid (V1_3.out.far hb4);have V2_4 := Lib.hid (V2_3.out.far hb4);have V3_4 := Lib.hid (V3_3.out.far hb4);have V4_4 := Lib.hid hv4
             obtain ⟨e4a, e4b, e4c, e4d, e4f, rfl⟩ := iv_form hv4))
      | (go_at_call 109; first
          | (refine (HQ.out _ _ _ V2_4.out V4_4.out).mono ?_
             rintro e u5 ⟨v5, rfl, hv5, hb5⟩;have T5 := Lib.hid (T4.out.far hb5);have K5 := Lib.hid T5.out.cells;have V1_5 := Lib.hid (V1_4.out.far hb5);have V2_5 := Lib.hid (V2_4.out.far hb5);have V3_5 := Lib.hid (V3_4.out.far hb5);have V4_5 := Lib.hid (V4_4.out.far hb5);have V5_5 := Lib.hid hv5;obtain ⟨g51, g52, g53, g54, g55, g56, g57, g58, g59, g510, rfl, hg51, hg52⟩ := rv_form hv5;have HG1 := Lib.hid hg51;have HG2 := Lib.hid hg52
             obtain ⟨⟨r0, r1, r2, r3, r4, r5⟩, fr⟩ := ResR.cells T5.out.hr)))
  go_wp2
  rw [HAD.out];exact end_rat Tryz.results97 rfl rfl T5.out.hr HG1.out HG2.out T5.out.bel (by omega)
end
end Go.Proofs.YteoklapcifonaaaGreatDoor
/- Holds at any drawn constraint. -/
namespace Go.Proofs.YteoklapcifonaaaGreatDoor
open Go.RowKit Nmx

/-- the truth of a constraint whose expression has the value x -/
def holdF (r : Int) (M : Option Int) (x : Rat) : Bool := match M with
  | none => cmpF r x
  | some m => decide ((x / (m : Rat)).den = 1) == (r == 4)
/-- the boxes of Holds: the constraint, the value -/
structure HB (w W : World) (r s : Int) (a1 : Option Addr) (n1 c1 : Nat) (t1 tm : ByteArray) : Prop where
  a : W.heap[w.heap.size]? = some (.cells #[.int .i64 r, .int .i64 s, .slice a1 n1 c1, .string t1, .string tm] 39 (0, 0))
  bel : Below w.heap.size w W
theorem HB.far {w W W' : World} {r s : Int} {a1 : Option Addr} {n1 c1 : Nat} {t1 tm : ByteArray} (h : HB w W r s a1 n1 c1 t1 tm) (hb : Below W.heap.size W W') : HB w W' r s a1 n1 c1 t1 tm :=
  ⟨(hb.block _ (lt_of_heap h.a)).trans h.a, h.bel.trans (hb.mono h.bel.size)⟩
section
set_option maxRecDepth 100000
set_option maxHeartbeats 8000000
theorem holds_any {d : Nat} {w : World} {r s : Int} {a1 : Option Addr} {n1 c1 : Nat} {t1 : ByteArray} {p : Rat} {cs : List (List UInt8 × Rat)} {M : Option Int} {ve : Value} {es : List (List UInt8 × Rat)} (h : LV w (.agg #[.int .i64 s, .slice a1 n1 c1, .string t1]) s d p cs) (hk : ConM r s d M) (he : EV w ve s es) (hd : d ≤ 400) (hE : Env w) :
    Calls Tryz.prog 44 #[.agg #[.int .i64 r, .int .i64 s, .slice a1 n1 c1, .string t1, .string (TXo M)], ve] w fun e w' => e = .returned (.tuple #[.bool (holdF r M (evS p cs (cof es))), .int .i64 0]) ∧ Below w.heap.size w w' := by
  have hvl : ∀ W, Below w.heap.size w W → Calls Tryz.prog 31 #[.agg #[.int .i64 r, .int .i64 s, .slice a1 n1 c1, .string t1, .string (TXo M)]] W fun e w' => e = .returned (.bool true) ∧ Below W.heap.size W w' := fun W hW => by
    cases M with
    | none => exact validCmp (h.far hW) hk.1 hk.2 (by omega) (hE.far hW)
    | some m =>
      obtain ⟨rfl, hr, hm, hmd⟩ := hk;exact validDiv (h.far hW) hr hm (hmd.mono (by omega)) (by omega) (hE.far hW)
  have hve := fun W (hW : Below w.heap.size w W) => validEnv_any hk.sort W (he.far hW) (hE.far hW)
  have hev := fun W (hW : Below w.heap.size w W) => eval_any (h.far hW) (he.far hW) hd (hE.far hW)
  obtain ⟨x, hx⟩ : ∃ x, evS p cs (cof es) = x := ⟨_, rfl⟩
  rw [hx] at hev ⊢
  have dx : DS 2400 x := by
    rw [← hx];obtain ⟨hg, dp⟩ := h.good;obtain ⟨_, _, _, _, _, hG⟩ := he;refine (evS_ds (env_ds hG) cs d p dp hg.ds).mono ?_;have h4 := can_len hg.can hg.nm;have h6 : cs.length * (d + 27) ≤ 4 * (d + 27) := Nat.mul_le_mul_right _ h4
    omega
  have HVL := Lib.hid hvl;have HVE := Lib.hid hve;have HEV := Lib.hid hev;have HDX := Lib.hid dx;have HE := Lib.hid hE;clear hvl hve hev hx dx h he hE;cases M with
  | none =>
    obtain ⟨hs, hr⟩ := hk;have hcm := fun W v (hv : RV W v x) => compares_any hv hr
    have HCM := Lib.hid hcm;have hal := alloc_far w (.cells #[.int .i64 r, .int .i64 s, .slice a1 n1 c1, .string t1, .string ⟨#[]⟩] 39);have HBX := Lib.hid (⟨heap_alloc_new w _, hal⟩ : HB w _ r s a1 n1 c1 t1 ⟨#[]⟩);clear hcm hal hs hr;show Calls Tryz.prog 44 #[.agg #[.int .i64 r, .int .i64 s, .slice a1 n1 c1, .string t1, .string ⟨#[]⟩], ve] w fun e w' => e = .returned (.tuple #[.bool (cmpF r x), .int .i64 0]) ∧ Below w.heap.size w w'
    change Hid (∀ W, Below w.heap.size w W → Calls Tryz.prog 31 #[.agg #[.int .i64 r, .int .i64 s, .slice a1 n1 c1, .string t1, .string ⟨#[]⟩]] W fun e w' => e = .returned (.bool true) ∧ Below W.heap.size W w') at HVL
    go_enter Tryz.func44, Tryz.ntmps44
    go_wp2_with fail
    generalize w.alloc (.cells #[.int .i64 r, .int .i64 s, .slice a1 n1 c1, .string t1, .string ⟨#[]⟩] 39) = w1 at *;refine (HVL.out _ HBX.out.bel).mono ?_;rintro e w2 ⟨rfl, hb⟩;replace HBX := Lib.hid (HBX.out.far hb);clear hb
    go_wp2_with fail
    refine (HVE.out _ HBX.out.bel).mono ?_;rintro e w3 ⟨rfl, hb⟩;replace HBX := Lib.hid (HBX.out.far hb);clear hb;have p0 := heap_cell HBX.out.a 0;have p1 := heap_cell HBX.out.a 1;have p2 := heap_cell HBX.out.a 2;have p3 := heap_cell HBX.out.a 3;have p4 := heap_cell HBX.out.a 4;have hla := lt_of_heap HBX.out.a
    go_wp2_with fail
    refine (HEV.out _ HBX.out.bel).mono ?_;rintro e w4 ⟨v, rfl, hv, hb⟩;replace HBX := Lib.hid (HBX.out.far hb);obtain ⟨s3, b3, ao3, n3, c3, s4, b4, ao4, n4, c4, rfl, -, -⟩ := rv_form hv;have HV := Lib.hid (hv.far (alloc_far w4 (.cells #[.int .i64 s3, .bool b3, .slice ao3 n3 c3, .int .i64 s4, .bool b4, .slice ao4 n4 c4] 85)));clear hv hb p0 p1 p2 p3 p4 hla;have p0 := heap_cell HBX.out.a 0;have p4 := heap_cell HBX.out.a 4;have hla := lt_of_heap HBX.out.a
    go_wp2_with fail
    replace HBX := Lib.hid (HBX.out.far (alloc_far w4 (.cells #[.int .i64 s3, .bool b3, .slice ao3 n3 c3, .int .i64 s4, .bool b4, .slice ao4 n4 c4] 85)));refine (HCM.out _ _ HV.out).mono ?_;rintro e w5 ⟨rfl, hb⟩;replace HBX := Lib.hid (HBX.out.far hb);clear hb p0 p4 hla
    go_wp2
    go_ret2
    exact ⟨rfl, HBX.out.bel⟩
  | some m =>
    obtain ⟨rfl, hr, hm, hmd⟩ := hk;have hn1 := tx_some (m : Rat);have hmm : ∀ W, Below w.heap.size w W → Calls Tryz.prog 56 #[.string (TX (m : Rat))] W (GetsQ (m : Rat) W) := fun W hW => mustT hmd (by omega) W (HE.out.far hW)
    have hdv : ∀ W u v, RV W u x → RV W v (m : Rat) → Calls Tryz.prog 97 #[u, v] W (GetsQ (x / (m : Rat)) W) := fun W u v hu hv => ratDiv_any _ _ x (m : Rat) W hu hv (ds_rs (k := 300) HDX.out (by omega)) (ds_rs (k := 60) hmd (by omega)) (by omega) (by rw [Rat.num_intCast]; omega)
    show Calls Tryz.prog 44 #[.agg #[.int .i64 r, .int .i64 2, .slice a1 n1 c1, .string t1, .string (TX (m : Rat))], ve] w fun e w' => e = .returned (.tuple #[.bool (decide ((x / (m : Rat)).den = 1) == (r == 4)), .int .i64 0]) ∧ Below w.heap.size w w'
    change Hid (∀ W, Below w.heap.size w W → Calls Tryz.prog 31 #[.agg #[.int .i64 r, .int .i64 2, .slice a1 n1 c1, .string t1, .string (TX (m : Rat))]] W fun e w' => e = .returned (.bool true) ∧ Below W.heap.size W w') at HVL;obtain ⟨tm, htm⟩ : ∃ t, TX (m : Rat) = t := ⟨_, rfl⟩
    rw [htm] at hn1 hmm HVL ⊢;have HMM := Lib.hid hmm;have HDV := Lib.hid hdv;have hn2 := hn1.1;have hn3 := hn1.2;have hal := alloc_far w (.cells #[.int .i64 r, .int .i64 2, .slice a1 n1 c1, .string t1, .string tm] 39);have HBX := Lib.hid (⟨heap_alloc_new w _, hal⟩ : HB w _ r 2 a1 n1 c1 t1 tm);obtain ⟨bz, hbz⟩ : ∃ b, decide ((x / (m : Rat)).den = 1) = b := ⟨_, rfl⟩
    have HBZ := Lib.hid hbz;rw [hbz];clear hbz hal hmm hdv htm hn1 hm hmd
    go_enter Tryz.func44, Tryz.ntmps44
    go_wp2_with fail
    generalize w.alloc (.cells #[.int .i64 r, .int .i64 2, .slice a1 n1 c1, .string t1, .string tm] 39) = w1 at *;refine (HVL.out _ HBX.out.bel).mono ?_;rintro e w2 ⟨rfl, hb⟩;replace HBX := Lib.hid (HBX.out.far hb);clear hb
    go_wp2_with fail
    refine (HVE.out _ HBX.out.bel).mono ?_;rintro e w3 ⟨rfl, hb⟩;replace HBX := Lib.hid (HBX.out.far hb);clear hb;have p0 := heap_cell HBX.out.a 0;have p1 := heap_cell HBX.out.a 1;have p2 := heap_cell HBX.out.a 2;have p3 := heap_cell HBX.out.a 3;have p4 := heap_cell HBX.out.a 4;have hla := lt_of_heap HBX.out.a
    go_wp2_with fail
    refine (HEV.out _ HBX.out.bel).mono ?_;rintro e w4 ⟨v, rfl, hv, hb⟩;replace HBX := Lib.hid (HBX.out.far hb);obtain ⟨s3, b3, ao3, n3, c3, s4, b4, ao4, n4, c4, rfl, -, -⟩ := rv_form hv;have hal := alloc_far w4 (.cells #[.int .i64 s3, .bool b3, .slice ao3 n3 c3, .int .i64 s4, .bool b4, .slice ao4 n4 c4] 85);have HV := Lib.hid (hv.far hal);have HN1 := Lib.hid (heap_alloc_new w4 (.cells #[.int .i64 s3, .bool b3, .slice ao3 n3 c3, .int .i64 s4, .bool b4, .slice ao4 n4 c4] 85));clear hv hb p0 p1 p2 p3 p4 hla;have p0 := heap_cell HBX.out.a 0;have p4 := heap_cell HBX.out.a 4;have hla := lt_of_heap HBX.out.a
    go_wp2_with fail
    replace HBX := Lib.hid (HBX.out.far hal);clear hal p0 p4 hla;generalize w4.alloc (.cells #[.int .i64 s3, .bool b3, .slice ao3 n3 c3, .int .i64 s4, .bool b4, .slice ao4 n4 c4] 85) = w5 at *;generalize w4.heap.size = N at *;refine add_region [[], [], [1], [1, 2], [0, 1, 2, 3], [0, 1, 2, 3, 4], [], [6], [6, 7], [0, 1, 2, 3, 4, 5, 6, 7, 8], [0, 1, 2, 3, 4, 5, 6, 7, 8, 9], [0, 1, 2, 3, 4, 5, 6, 7, 8, 9, 10]] (fun W => HB w W r 2 a1 n1 c1 t1 tm ∧ W.heap[N]? = some (.cells #[.int .i64 s3, .bool b3, .slice ao3 n3 c3, .int .i64 s4, .bool b4, .slice ao4 n4 c4] 85 (0, 0)) ∧ RV W (.agg #[.int .i64 s3, .bool b3, .slice ao3 n3 c3, .int .i64 s4, .bool b4, .slice ao4 n4 c4]) x) (fun _ => True) ?_
    iterate 3
      apply a_con
      · intro x; go_simp; done
      · intro x W R hW hF hR;have p0 := heap_cell hW.1.a 0;have p4 := heap_cell hW.1.a 4;have q0 := heap_cell hW.2.1 0;have q1 := heap_cell hW.2.1 1;have q2 := heap_cell hW.2.1 2;have q3 := heap_cell hW.2.1 3;have q4 := heap_cell hW.2.1 4;have q5 := heap_cell hW.2.1 5;clear hF;unfold addAt
        go_simp
        simp only [addUpon];exact hR _ (Below.refl _ _)
      simp only [Act.put, List.setIfInBounds_toArray, List.set_cons_zero, List.set_cons_succ]
    refine a_opq (fun v W => RV W v ((m : Rat))) (fun _ _ _ h hb => h.far hb) ?_ ?_ ?_
    · intro x; go_simp; done
    · intro x W R hW hF hR;clear hF;unfold addAt
      go_simp
      simp only [addUpon];refine (HMM.out W hW.1.bel).mono ?_;rintro e w' ⟨v, rfl, hv, hb⟩;exact ⟨v, rfl, hR _ _ hv hb⟩
    simp only [Act.put, List.setIfInBounds_toArray, List.set_cons_zero, List.set_cons_succ, List.length_cons, List.length_nil, Nat.zero_add, Nat.reduceAdd];refine a_opq (fun v W => RV W v (x / (m : Rat))) (fun _ _ _ h hb => h.far hb) ?_ ?_ ?_
    · intro x; go_simp; done
    · intro x W R hW hF hR;have hu := hF.1.2 rfl rfl rfl;simp only [AK.fact] at hu;clear hF;unfold addAt
      go_simp
      simp only [addUpon];refine (HDV.out W _ _ hW.2.2 hu).mono ?_;rintro e w' ⟨v, rfl, hv, hb⟩;exact ⟨v, rfl, hR _ _ hv hb⟩
    simp only [Act.put, List.setIfInBounds_toArray, List.set_cons_zero, List.set_cons_succ, List.length_cons, List.length_nil, Nat.zero_add, Nat.reduceAdd];apply a_con
    · intro x; go_simp; done
    · intro x W R hW hF hR;have hu := hF.1.2 rfl rfl rfl;simp only [AK.fact] at hu;clear hF;unfold addAt
      go_simp
      simp only [addUpon];refine (ratIsInt_any _ _ W hu).mono ?_;rintro e w' ⟨rfl, hb⟩;exact ⟨_, rfl, hR _ hb⟩
    simp only [Act.put, List.setIfInBounds_toArray, List.set_cons_zero, List.set_cons_succ]
    iterate 6
      apply a_con
      · intro x; go_simp; done
      · intro x W R hW hF hR;have p0 := heap_cell hW.1.a 0;have p4 := heap_cell hW.1.a 4;have q0 := heap_cell hW.2.1 0;have q1 := heap_cell hW.2.1 1;have q2 := heap_cell hW.2.1 2;have q3 := heap_cell hW.2.1 3;have q4 := heap_cell hW.2.1 4;have q5 := heap_cell hW.2.1 5;clear hF;unfold addAt
        go_simp
        simp only [addUpon];exact hR _ (Below.refl _ _)
      simp only [Act.put, List.setIfInBounds_toArray, List.set_cons_zero, List.set_cons_succ]
    refine a_nil (by kernel_rfl) (by kernel_rfl) (by kernel_rfl) (fun _ _ h hb => ⟨h.1.far hb, (hb.block _ (lt_of_heap h.2.1)).trans h.2.1, h.2.2.far hb⟩) (fun _ _ _ _ => trivial) (fun _ _ => trivial) (⟨HBX.out.far (Below.refl _ _).drew, HN1.out, HV.out.far (Below.refl _ _).drew⟩) ?_;intro x W hE hW hF hD;clear hD;have hc := hW rfl;have HBL := Lib.hid hc.1.bel;clear hE hF hW hc;rw [HBZ.out]
    go_wp2
    go_ret2
    exact ⟨rfl, HBL.out⟩
end
end Go.Proofs.YteoklapcifonaaaGreatDoor

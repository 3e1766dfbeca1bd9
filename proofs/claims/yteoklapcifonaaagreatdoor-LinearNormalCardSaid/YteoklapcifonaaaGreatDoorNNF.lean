/- Int.Cmp of package exact; QuoRem of small integers. -/
import Derived.Test.YteoklapcifonaaaGreatDoorNNE
import Derived.Deep.RegionHeld3
open Go.Lib (hid)
namespace Go.Proofs.YteoklapcifonaaaGreatDoor
open Go.RowKit Nmx
section
set_option maxRecDepth 100000
set_option maxHeartbeats 4000000
theorem below2 (w : World) (o o' : Obj) : Below w.heap.size w ((w.alloc o).alloc o') := ((Below.refl w.heap.size w).alloc (Nat.le_refl _) _).alloc (by simp) _
end
end Go.Proofs.YteoklapcifonaaaGreatDoor
namespace Go.Proofs.YteoklapcifonaaaGreatDoor
open Go.RowKit Nmx
def QRPost (za zb : Int) (w : World) (e : Ending) (w' : World) : Prop := ∃ v1 v2, e = .returned (.tuple #[v1, v2]) ∧ IV w' v1 (za / zb) ∧ IV w' v2 (za % zb) ∧ Below w.heap.size w w'
theorem tdiv_cases {a b : Int} (hb : b ≠ 0) : (0 ≤ a.tmod b → a / b = a.tdiv b ∧ a % b = a.tmod b) ∧ (a.tmod b < 0 → 0 < b → a / b = a.tdiv b - 1 ∧ a % b = a.tmod b + b) ∧ (a.tmod b < 0 → b < 0 → a / b = a.tdiv b + 1 ∧ a % b = a.tmod b - b) := by
 have h1 := Int.tdiv_mul_add_tmod a b;have h2 := Int.emod_nonneg a hb;have h3 := Int.emod_lt_of_pos
 have key : ∀ q r : Int, q * b + r = a → 0 ≤ r → r < b.natAbs → a / b = q ∧ a % b = r := by
  intro q r e hr hl;have e2 : a = r + b * q := by rw [← e, Int.mul_comm]; omega
  have e3 : r / b = 0 ∧ r % b = r := by
   rcases Int.lt_or_gt_of_ne hb with hn | hp
   · have : r / (-b) = 0 := Int.ediv_eq_zero_of_lt hr (by omega);have h4 : r % (-b) = r := Int.emod_eq_of_lt hr (by omega);rw [Int.ediv_neg] at this;rw [Int.emod_neg] at h4;exact ⟨by omega, h4⟩
   · exact ⟨Int.ediv_eq_zero_of_lt hr (by omega), Int.emod_eq_of_lt hr (by omega)⟩
  rw [e2];refine ⟨?_, ?_⟩
  · rw [Int.add_mul_ediv_left _ _ hb, e3.1, Int.zero_add]
  · rw [Int.add_mul_emod_self_left, e3.2]
 have hlt : (a.tmod b).natAbs < b.natAbs := by rw [Int.natAbs_tmod]; exact Nat.mod_lt _ (by omega)
 refine ⟨fun h => key _ _ h1 h (by omega), fun h hp => key _ _ ?_ (by omega) (by omega), fun h hn => key _ _ ?_ (by omega) (by omega)⟩
 · rw [Int.sub_mul]; omega
 · rw [Int.add_mul]; omega
theorem ediv_small {a b : Int} (ha : Small a) : Small (a / b) := by
 have h := Int.natAbs_ediv_le_natAbs a b;unfold Small at *
 omega
theorem emod_small {a b : Int} (hb0 : Small b) (hb : b ≠ 0) : Small (a % b) := by
 have h1 := Int.emod_nonneg a hb;have h2 : a % b < b.natAbs := Int.emod_lt a hb;unfold Small at *
 omega
section
set_option maxRecDepth 100000
set_option maxHeartbeats 4000000
theorem new_fourth (w : World) (o o' o2 o3 : Obj) : ((((w.alloc o).alloc o').alloc o2).alloc o3).heap[w.heap.size + 3]? = some o3 ∧ ((((w.alloc o).alloc o').alloc o2).alloc o3).heap[w.heap.size + 2]? = some o2 := by
 refine ⟨?_, ?_⟩
 · have := heap_alloc_new (((w.alloc o).alloc o').alloc o2) o3
   simpa using this
 · rw [Below.heap_alloc _ _ _ (by simp)];exact new_third w o o' o2
theorem below4 (w : World) (o o' o2 o3 : Obj) : Below w.heap.size w ((((w.alloc o).alloc o').alloc o2).alloc o3) := (below3 w o o' o2).alloc (by simp; omega) _
theorem end_two {fn : Func} {t t' : Tmp} {a : Act} {w w2 : World} {R R' : Nat} {za zb z z' s s' : Int} {b b' : Bool} {ao ao' : Option Addr} {n c n' c' : Nat} {x0 x1 x2 y0 y1 y2 : Value} (hres : fn.results = #[.cell t 83, .cell t' 83]) (hd : a.defers = [])
    (ht : a.tmps.getD t undef = .pointer (some ⟨R, 0, none⟩)) (ht' : a.tmps.getD t' undef = .pointer (some ⟨R', 0, none⟩))
    (hR : w2.heap[R]? = some (.cells #[x0, x1, x2] 83 (0, 0))) (hR' : w2.heap[R']? = some (.cells #[y0, y1, y2] 83 (0, 0))) (hne : R ≠ R')
    (hv : IV w2 (.agg #[.int .i64 s, .bool b, .slice ao n c]) z) (hv' : IV w2 (.agg #[.int .i64 s', .bool b', .slice ao' n' c']) z') (hz : za / zb = z) (hz' : za % zb = z') (hb : Below w.heap.size w w2) (hRB : w.heap.size ≤ R) (hRB' : w.heap.size ≤ R') :
    bodyPost Tryz.prog fn (QRPost za zb w) .ret a ((((((w2.setCell ⟨R, 0, none⟩ (.int .i64 s)).setCell ⟨R, 1, none⟩ (.bool b)).setCell ⟨R, 2, none⟩ (.slice ao n c)).setCell ⟨R', 0, none⟩ (.int .i64 s')).setCell ⟨R', 1, none⟩ (.bool b')).setCell ⟨R', 2, none⟩ (.slice ao' n' c')) := by
 subst hz hz';have h3 := av (av (av hR 0 (.int .i64 s)) 1 (.bool b)) 2 (.slice ao n c);have hiv := hv.set3 hR (.int .i64 s) (.bool b) (.slice ao n c);have hiv' := hv'.set3 hR (.int .i64 s) (.bool b) (.slice ao n c)
 have hR2 : (set3 w2 R (.int .i64 s) (.bool b) (.slice ao n c)).heap[R']? = some (.cells #[y0, y1, y2] 83 (0, 0)) := by
  unfold set3;rw [Below.heap_setCell _ _ _ _ (Ne.symm hne), Below.heap_setCell _ _ _ _ (Ne.symm hne), Below.heap_setCell _ _ _ _ (Ne.symm hne)];exact hR'
 have hbl := ((hb.setCell (show w.heap.size ≤ (⟨R, 0, none⟩ : Addr).block from hRB) (.int .i64 s)).setCell (show w.heap.size ≤ (⟨R, 1, none⟩ : Addr).block from hRB) (.bool b)).setCell (show w.heap.size ≤ (⟨R, 2, none⟩ : Addr).block from hRB) (.slice ao n c);unfold set3 at hiv hiv' hR2;generalize ((w2.setCell ⟨R, 0, none⟩ (.int .i64 s)).setCell ⟨R, 1, none⟩ (.bool b)).setCell ⟨R, 2, none⟩ (.slice ao n c) = w3 at *;have g3 := av (av (av hR2 0 (.int .i64 s')) 1 (.bool b')) 2 (.slice ao' n' c');have giv := hiv.set3 hR2 (.int .i64 s') (.bool b') (.slice ao' n' c');have giv' := hiv'.set3 hR2 (.int .i64 s') (.bool b') (.slice ao' n' c')
 have h4 : (set3 w3 R' (.int .i64 s') (.bool b') (.slice ao' n' c')).heap[R]? = w3.heap[R]? := by
  unfold set3;rw [Below.heap_setCell _ _ _ _ hne, Below.heap_setCell _ _ _ _ hne, Below.heap_setCell _ _ _ _ hne]
 rw [h3] at h4;have gbl := ((hbl.setCell (show w.heap.size ≤ (⟨R', 0, none⟩ : Addr).block from hRB') (.int .i64 s')).setCell (show w.heap.size ≤ (⟨R', 1, none⟩ : Addr).block from hRB') (.bool b')).setCell (show w.heap.size ≤ (⟨R', 2, none⟩ : Addr).block from hRB') (.slice ao' n' c');unfold set3 at giv giv' h4;generalize ((w3.setCell ⟨R', 0, none⟩ (.int .i64 s')).setCell ⟨R', 1, none⟩ (.bool b')).setCell ⟨R', 2, none⟩ (.slice ao' n' c') = w4 at *;have k0 := aa h4 0;have k1 := aa h4 1;have k2 := aa h4 2;have l0 := aa g3 0;have l1 := aa g3 1;have l2 := aa g3 2
 simp at k0 k1 k2 l0 l1 l2
 refine bodyPost_ret (v := .tuple #[.agg #[.int .i64 s, .bool b, .slice ao n c], .agg #[.int .i64 s', .bool b', .slice ao' n' c']]) ?_ hd ⟨_, _, rfl, giv, giv', gbl⟩;have ht1 : a.tmps[t]?.getD undef = .pointer (some ⟨R, 0, none⟩) := by simpa using ht
 have ht2 : a.tmps[t']?.getD undef = .pointer (some ⟨R', 0, none⟩) := by simpa using ht'
 simp [results, hres, go_sem, ht1, ht2, k0, k1, k2, l0, l1, l2]
theorem quoRem_ss {za zb : Int} (w : World) (hza : Small za) (hzb : Small zb) (h0 : zb ≠ 0) :
    Calls Tryz.prog 121 #[.agg #[.int .i64 za, .bool false, .slice none 0 0], .agg #[.int .i64 zb, .bool false, .slice none 0 0]] w (QRPost za zb w) := by
 have kq0 := mag_eql0;have hds := ediv_small (b := zb) hza;have hms := emod_small (a := za) hzb h0;obtain ⟨t1, t2, t3⟩ := tdiv_cases (a := za) h0;have T1 := hid t1;have T2 := hid t2;have T3 := hid t3;have h0b : (zb == 0) = false := by simpa using h0
 have hqa : (za.tdiv zb).natAbs ≤ za.natAbs := by rw [Int.natAbs_tdiv]; exact Nat.div_le_self _ _
 have hra : (za.tmod zb).natAbs < zb.natAbs := by rw [Int.natAbs_tmod]; exact Nat.mod_lt _ (by omega)
 have DS := hid hds;have MS := hid hms;obtain ⟨q1, q2⟩ := hza;obtain ⟨q3, q4⟩ := hzb;clear t1 t2 t3 hds hms;obtain ⟨Q, hQ⟩ : ∃ Q, za.tdiv zb = Q := ⟨_, rfl⟩
 obtain ⟨R, hR⟩ : ∃ R, za.tmod zb = R := ⟨_, rfl⟩
 have b1 : -9223372036854775807 ≤ Q := by omega
 have b2 : Q ≤ 9223372036854775807 := by omega
 have b3 : -9223372036854775807 ≤ R := by omega
 have b4 : R ≤ 9223372036854775807 := by omega
 have b5 := hra;rw [hR] at b5;clear hqa hra
 by_cases hr : R < 0
 · by_cases hp : 0 < zb
   · have HE : Hid (za / zb = Q - 1 ∧ za % zb = R + zb) := hid (by have := T2.out (by rw [hR]; exact hr) hp; rw [hQ, hR] at this; exact this);have HS1 : Hid (Small (Q - 1)) := hid (by have := DS.out; rw [HE.out.1] at this; exact this);have HS2 : Hid (Small (R + zb)) := hid (by have := MS.out; rw [HE.out.2] at this; exact this);obtain ⟨v1, v2⟩ := HS1.out;obtain ⟨v3, v4⟩ := HS2.out
     go_enter Tryz.func121, Tryz.ntmps121
     go_wp2
     go_quiet (fail)
     go_wp2
     go_quiet (fail)
     go_wp2
     exact end_two Tryz.results121 rfl rfl rfl (new_fourth w _ _ _ _).2 (new_fourth w _ _ _ _).1 (by omega) (bJ _ HS1.out) (bJ _ HS2.out) HE.out.1 HE.out.2 (aw (below4 w _ _ _ _) _) (by omega) (by omega)
   · have hp2 : zb < 0 := by omega
     have HE : Hid (za / zb = Q + 1 ∧ za % zb = R - zb) := hid (by have := T3.out (by rw [hR]; exact hr) hp2; rw [hQ, hR] at this; exact this);have HS1 : Hid (Small (Q + 1)) := hid (by have := DS.out; rw [HE.out.1] at this; exact this);have HS2 : Hid (Small (R - zb)) := hid (by have := MS.out; rw [HE.out.2] at this; exact this);obtain ⟨v1, v2⟩ := HS1.out;obtain ⟨v3, v4⟩ := HS2.out
     go_enter Tryz.func121, Tryz.ntmps121
     go_wp2
     go_quiet (fail)
     go_wp2
     go_quiet (fail)
     go_wp2
     exact end_two Tryz.results121 rfl rfl rfl (new_fourth w _ _ _ _).2 (new_fourth w _ _ _ _).1 (by omega) (bJ _ HS1.out) (bJ _ HS2.out) HE.out.1 HE.out.2 (aw (below4 w _ _ _ _) _) (by omega) (by omega)
 · have HE : Hid (za / zb = Q ∧ za % zb = R) := hid (by have := T1.out (by rw [hR]; omega); rw [hQ, hR] at this; exact this);have HS1 : Hid (Small (Q)) := hid (by have := DS.out; rw [HE.out.1] at this; exact this);have HS2 : Hid (Small (R)) := hid (by have := MS.out; rw [HE.out.2] at this; exact this)
   go_enter Tryz.func121, Tryz.ntmps121
   go_wp2
   go_quiet (fail)
   go_wp2
   exact end_two Tryz.results121 rfl rfl rfl (new_fourth w _ _ _ _).2 (new_fourth w _ _ _ _).1 (by omega) (bJ _ HS1.out) (bJ _ HS2.out) HE.out.1 HE.out.2 (aw (below4 w _ _ _ _) _) (by omega) (by omega)
theorem iv_small {w : World} {v : Value} {z : Int} (h : IV w v z) (hs : Small z) : v = bT z := by
 rcases h with ⟨h, _⟩ | ⟨b, g, off, cap, l, _, _, h3, rfl⟩
 · exact h
 · exact absurd hs (big_sgn h3).1
end
end Go.Proofs.YteoklapcifonaaaGreatDoor
namespace Go.Proofs.YteoklapcifonaaaGreatDoor
open Go.RowKit Nmx
/-- two integers that lie in blocks g and h -/
def Two (w : World) (g h : Nat) (a0 a1 a2 b0 b1 b2 : Value) : Prop :=
 w.cell? ⟨g, 0, none⟩ = some a0 ∧ w.cell? ⟨g, 1, none⟩ = some a1 ∧ w.cell? ⟨g, 2, none⟩ = some a2 ∧ w.cell? ⟨h, 0, none⟩ = some b0 ∧ w.cell? ⟨h, 1, none⟩ = some b1 ∧ w.cell? ⟨h, 2, none⟩ = some b2
theorem Two.far {W w1 : World} {g h : Nat} {a0 a1 a2 b0 b1 b2 : Value} (hb : Below W.heap.size W w1) (hg : g < W.heap.size) (hh : h < W.heap.size) (k : Two W g h a0 a1 a2 b0 b1 b2) : Two w1 g h a0 a1 a2 b0 b1 b2 := by
 obtain ⟨k0, k1, k2, k3, k4, k5⟩ := k;have f : ∀ b o, b < W.heap.size → w1.cell? ⟨b, o, none⟩ = W.cell? ⟨b, o, none⟩ := (bcell hb).1;exact ⟨(f _ _ hg).trans k0, (f _ _ hg).trans k1, (f _ _ hg).trans k2, (f _ _ hh).trans k3, (f _ _ hh).trans k4, (f _ _ hh).trans k5⟩
theorem cell_set3 {w : World} {R g : Nat} (h : g ≠ R) (x y z : Value) (i : Nat) : (((w.setCell ⟨R, 0, none⟩ x).setCell ⟨R, 1, none⟩ y).setCell ⟨R, 2, none⟩ z).cell? ⟨g, i, none⟩ = w.cell? ⟨g, i, none⟩ := by
 apply World.cell?_of_block;show (((w.setCell ⟨R, 0, none⟩ x).setCell ⟨R, 1, none⟩ y).setCell ⟨R, 2, none⟩ z).heap[g]? = w.heap[g]?;rw [Below.heap_setCell _ _ _ _ h, Below.heap_setCell _ _ _ _ h, Below.heap_setCell _ _ _ _ h]
theorem Two.set {w : World} {g h R : Nat} {a0 a1 a2 b0 b1 b2 : Value} (k : Two w g h a0 a1 a2 b0 b1 b2) (hg : g ≠ R) (hh : h ≠ R) (x y z : Value) : Two (((w.setCell ⟨R, 0, none⟩ x).setCell ⟨R, 1, none⟩ y).setCell ⟨R, 2, none⟩ z) g h a0 a1 a2 b0 b1 b2 := by
 obtain ⟨k0, k1, k2, k3, k4, k5⟩ := k;exact ⟨(cell_set3 hg _ _ _ 0).trans k0, (cell_set3 hg _ _ _ 1).trans k1, (cell_set3 hg _ _ _ 2).trans k2, (cell_set3 hh _ _ _ 0).trans k3, (cell_set3 hh _ _ _ 1).trans k4, (cell_set3 hh _ _ _ 2).trans k5⟩
theorem Res.cells {w : World} {R : Nat} (h : w.heap[R]? = some (.cells #[.int .i64 0, .bool false, .slice none 0 0] 83 (0, 0))) : w.cell? ⟨R, 0, none⟩ = some (.int .i64 0) ∧ w.cell? ⟨R, 1, none⟩ = some (.bool false) ∧ w.cell? ⟨R, 2, none⟩ = some (.slice none 0 0) ∧ w.frozen? ⟨R, 0, none⟩ = false ∧ w.frozen? ⟨R, 1, none⟩ = false ∧ w.frozen? ⟨R, 2, none⟩ = false :=
 ⟨aa h 0, aa h 1, aa h 2, ah h 0, ah h 1, ah h 2⟩
theorem fit_neg {z : Int} (h : Fit z) : Fit (-z) := by unfold Fit at *; rw [Int.natAbs_neg]; exact h
section
set_option maxRecDepth 100000
set_option maxHeartbeats 4000000
theorem sub_any (x y : Value) (za zb : Int) (w : World) (ha : IV w x za) (hb : IV w y zb) (fa : Fit za) (fb : Fit zb) : Calls Tryz.prog 156 #[x, y] w (aY (za - zb) w) := by
 have hng := fun (W' : World) (hB : Below w.heap.size w W') => neg_any y zb W' (hb.far hB)
 have hadd := fun (W' : World) (v : Value) (hB : Below w.heap.size w W') (hv : IV W' v (-zb)) => add_any x v za (-zb) W' (ha.far hB) hv fa (fit_neg fb)
 obtain ⟨s1, b1, a1, n1, c1, rfl⟩ := ae ha;obtain ⟨s2, b2, a2, n2, c2, rfl⟩ := ae hb;clear ha hb
 go_enter Tryz.func156, Tryz.ntmps156
 go_wp2
 go_region_held3 (fun w' => w'.cell? ⟨w.heap.size, 0, none⟩ = some (.int .i64 s1) ∧ w'.cell? ⟨w.heap.size, 1, none⟩ = some (.bool b1) ∧ w'.cell? ⟨w.heap.size, 2, none⟩ = some (.slice a1 n1 c1) ∧ w'.cell? ⟨w.heap.size + 1, 0, none⟩ = some (.int .i64 s2) ∧ w'.cell? ⟨w.heap.size + 1, 1, none⟩ = some (.bool b2) ∧ w'.cell? ⟨w.heap.size + 1, 2, none⟩ = some (.slice a2 n2 c2))
  (first | exact K1 | exact K2 | exact Two.set (h := w.heap.size + 1) K2 (Nat.ne_of_lt (by omega)) (Nat.ne_of_lt (by omega)) _ _ _ | go_keep)
  (first
    | (go_at_call 150
       refine (hng _ (aw (below3 w _ _ _) _)).mono ?_;rintro e w1 ⟨v1, rfl, hv1, hb1⟩;have K1 : Two w1 w.heap.size (w.heap.size + 1) (.int .i64 s1) (.bool b1) (.slice a1 n1 c1) (.int .i64 s2) (.bool b2) (.slice a2 n2 c2) := Two.far hb1 (by simp; omega) (by simp) (by unfold Two; assumption);have hz1 : w.heap.size + 2 < w1.heap.size := by have := hb1.size; simp at this; omega
       have HR1 := hid ((hb1.block (w.heap.size + 2) (by simp)).trans (new_third w _ _ _));have HB1 := hid ((aw (below3 w _ _ _) _).trans (hb1.mono (by simp; omega)));have HV1 := hid hv1
       obtain ⟨s3, b3, a3, n3, c3, rfl⟩ := ae hv1)
    | (go_at_call 128
       refine (hadd _ _ HB1.out HV1.out).mono ?_;rintro e w2 ⟨v2, rfl, hv2, hb2⟩;have K2 : Two w2 w.heap.size (w.heap.size + 1) (.int .i64 s1) (.bool b1) (.slice a1 n1 c1) (.int .i64 s2) (.bool b2) (.slice a2 n2 c2) := Two.far hb2 (by omega) (by omega) K1;have HR2 := hid ((hb2.block (w.heap.size + 2) hz1).trans HR1.out);have HB2 := hid (HB1.out.trans (hb2.mono HB1.out.size));have HV2 := hid hv2;obtain ⟨s4, b4, a4, n4, c4, rfl⟩ := ae hv2
       obtain ⟨r0, r1, r2, r3, r4, r5⟩ := Res.cells (R := w.heap.size + 1 + 1) HR2.out))
 go_wp2
 rw [Int.sub_eq_add_neg];exact end_int Tryz.results156 rfl rfl HR2.out HV2.out HB2.out (by omega)
end
end Go.Proofs.YteoklapcifonaaaGreatDoor

/- Int.Mul of package exact. -/
import Derived.Test.YteoklapcifonaaaGreatDoorNNC
import Derived.Test.YteoklapcifonaaaGreatDoorNShelf
open Go.Lib (hid)
namespace Go.Proofs.YteoklapcifonaaaGreatDoor
open Go.RowKit Nmx
theorem sgn_mul (a b : Bool) (m n : Nat) : sgn (a != b) (m * n) = sgn a m * sgn b n := by
 cases a <;> cases b <;> simp [sgn, Int.neg_mul, Int.mul_neg]
theorem sgn_abs (z : Int) : sgn (decide (z < 0)) z.natAbs = z := by
 by_cases h : z < 0
 · rw [decide_eq_true h]; unfold sgn; simp; omega
 · rw [decide_eq_false h]; unfold sgn; simp; omega
section
set_option maxRecDepth 100000
set_option maxHeartbeats 40000000
theorem mul64_abs (x y : Nat) (X Y : Int) (hX : X = x) (hY : Y = y) (hx : x ≤ 9223372036854775807) (hy : y ≤ 9223372036854775807) (P H L : Nat) (hP : x * y = P) (hH : P / 18446744073709551616 = H) (hL : P % 18446744073709551616 = L) (w : World) :
    Calls Tryz.prog 146 #[.int .u64 X, .int .u64 Y] w fun e w' => e = .returned (.tuple #[.int .u64 H, .int .u64 L]) ∧ w' = w := by
 subst hX hY hP hH hL;exact Tryz.bits_Mul64 x y (by omega) (by omega) w
theorem mul_all :
    (∀ {za zb : Int} {b1 b2 : Bool} {ad1 ad2 : Addr} {n1 c1 n2 c2 : Nat} (w : World) (_ : IV w (.agg #[.int .i64 0, .bool b1, .slice (some ad1) n1 c1]) za) (_ : IV w (.agg #[.int .i64 0, .bool b2, .slice (some ad2) n2 c2]) zb) (_ : Fit za) (_ : Fit zb), Calls Tryz.prog 108 #[.agg #[.int .i64 0, .bool b1, .slice (some ad1) n1 c1], .agg #[.int .i64 0, .bool b2, .slice (some ad2) n2 c2]] w (aY (za * zb) w)) ∧
    (∀ {za zb : Int} {b1 : Bool} {ad1 : Addr} {n1 c1 : Nat} (w : World) (_ : IV w (.agg #[.int .i64 0, .bool b1, .slice (some ad1) n1 c1]) za) (_ : IV w (.agg #[.int .i64 zb, .bool false, .slice none 0 0]) zb) (_ : Fit za) (_ : Fit zb), Calls Tryz.prog 108 #[.agg #[.int .i64 0, .bool b1, .slice (some ad1) n1 c1], .agg #[.int .i64 zb, .bool false, .slice none 0 0]] w (aY (za * zb) w)) ∧
    (∀ {za zb : Int} {b2 : Bool} {ad2 : Addr} {n2 c2 : Nat} (w : World) (_ : IV w (.agg #[.int .i64 za, .bool false, .slice none 0 0]) za) (_ : IV w (.agg #[.int .i64 0, .bool b2, .slice (some ad2) n2 c2]) zb) (_ : Fit za) (_ : Fit zb), Calls Tryz.prog 108 #[.agg #[.int .i64 za, .bool false, .slice none 0 0], .agg #[.int .i64 0, .bool b2, .slice (some ad2) n2 c2]] w (aY (za * zb) w)) := by
 refine ⟨?g1, ?g2, ?g3⟩
 focus
  intro za zb b1 b2 ad1 ad2 n1 c1 n2 c2 w ha hb fa fb
 rotate_left
 focus
  intro za zb b1 ad1 n1 c1 w ha hb fa fb
 rotate_left
 focus
  intro za zb b2 ad2 n2 c2 w ha hb fa fb
 rotate_left
 all_goals
  have kq := mag_eql;have kq0 := mag_eql0;have hpa := fun (W' : World) (hB : Below w.heap.size w W') => parts_any _ _ W' (ha.far hB)
  have hpb := fun (W' : World) (hB : Below w.heap.size w W') => parts_any _ _ W' (hb.far hB)
  clear ha hb
  go_enter Tryz.func108, Tryz.ntmps108
  go_wp2_with fail
  refine (hpa _ (below3 w _ _ _)).mono ?_;rintro e w1 ⟨va', la, rfl, hva, hna, hla, -, hb1⟩;have hlla := fit_len hna hla fa;obtain ⟨hc1, hf1⟩ := bcell hb1;have hz1 : w.heap.size + 2 < w1.heap.size := by have := hb1.size; simp at this; omega
  have HB1 := hid ((below3 w _ _ _).trans (hb1.mono (by simp; omega)));have HR1 := hid ((hb1.block (w.heap.size + 2) (by simp)).trans (new_third w _ _ _));have HVA := hid hva;have HLA := hid hla;clear hb1 hva hna hla hpa
  go_wp2_with fail
  refine (hpb _ HB1.out).mono ?_;rintro e w2 ⟨vb', lb, rfl, hvb, hnb, hlb, -, hb2⟩;have hllb := fit_len hnb hlb fb;obtain ⟨hc2, hf2⟩ := bcell hb2;have hz2 : w.heap.size + 2 < w2.heap.size := by have := hb2.size; omega
  have HB2 := hid (HB1.out.trans (hb2.mono HB1.out.size));have HR2 := hid ((hb2.block (w.heap.size + 2) hz1).trans HR1.out);have HVA2 := hid (HVA.out.far hb2);have HVB := hid hvb;have HLB := hid hlb;clear hb2 hvb hnb hlb hpb HB1 HR1 HVA;have hmul := mulWords_any va' vb' la lb w2 HVA2.out HVB.out (by omega) (by omega)
  go_wp2_with fail
  refine hmul.mono ?_;rintro e w3 ⟨v3, l3, rfl, hv3, hw3, hl3, hb3⟩;have hfp := bF (decide (za < 0) != decide (zb < 0)) v3 l3 w3 hv3 (by omega);have HW3 := hid hw3;obtain ⟨hc3, hf3⟩ := bcell hb3;have hz3 : w.heap.size + 2 < w3.heap.size := by have := hb3.size; omega
  have HB3 := hid (HB2.out.trans (hb3.mono HB2.out.size));have HR3 := hid ((hb3.block (w.heap.size + 2) hz2).trans HR2.out);clear hb3 hv3 hw3 hmul
  go_wp2_with fail
  refine hfp.mono ?_;rintro e w4 ⟨v4, rfl, hv4, hb4⟩;have HV4 := hid hv4;obtain ⟨s4, b4, a4, n4, c4, rfl⟩ := ae hv4;obtain ⟨hc4, hf4⟩ := bcell hb4;have HB4 := hid (HB3.out.trans (hb4.mono HB3.out.size));have HR4 := hid ((hb4.block (w.heap.size + 2) hz3).trans HR3.out)
  have HE : Hid (sgn (decide (za < 0) != decide (zb < 0)) (wv l3) = za * zb) := hid (by
   rw [HW3.out, HLA.out, HLB.out, sgn_mul, sgn_abs, sgn_abs])
  clear hb4 hv4 hfp
  go_wp2
  rw [← HE.out];exact end_int Tryz.results108 rfl rfl HR4.out HV4.out HB4.out (by omega)
theorem mul_fit :
    (∀ {za zb : Int} (w : World) (_ : Small za) (_ : Small zb) (_ : ¬ za < 0) (_ : ¬ zb < 0) (_ : Small (za * zb)), Calls Tryz.prog 108 #[.agg #[.int .i64 za, .bool false, .slice none 0 0], .agg #[.int .i64 zb, .bool false, .slice none 0 0]] w (aY (za * zb) w)) ∧
    (∀ {za zb : Int} (w : World) (_ : Small za) (_ : Small zb) (_ : ¬ za < 0) (_ : zb < 0) (_ : Small (za * zb)), Calls Tryz.prog 108 #[.agg #[.int .i64 za, .bool false, .slice none 0 0], .agg #[.int .i64 zb, .bool false, .slice none 0 0]] w (aY (za * zb) w)) ∧
    (∀ {za zb : Int} (w : World) (_ : Small za) (_ : Small zb) (_ : za < 0) (_ : ¬ zb < 0) (_ : Small (za * zb)), Calls Tryz.prog 108 #[.agg #[.int .i64 za, .bool false, .slice none 0 0], .agg #[.int .i64 zb, .bool false, .slice none 0 0]] w (aY (za * zb) w)) ∧
    (∀ {za zb : Int} (w : World) (_ : Small za) (_ : Small zb) (_ : za < 0) (_ : zb < 0) (_ : Small (za * zb)), Calls Tryz.prog 108 #[.agg #[.int .i64 za, .bool false, .slice none 0 0], .agg #[.int .i64 zb, .bool false, .slice none 0 0]] w (aY (za * zb) w)) := by
 refine ⟨?g1, ?g2, ?g3, ?g4⟩
 focus
  intro za zb w hza hzb ha0 hb0 hs
 rotate_left
 focus
  intro za zb w hza hzb ha0 hb0 hs
 rotate_left
 focus
  intro za zb w hza hzb ha0 hb0 hs
 rotate_left
 focus
  intro za zb w hza hzb ha0 hb0 hs
 rotate_left
 all_goals
  have kq0 := mag_eql0;obtain ⟨q1, q2⟩ := hza;obtain ⟨q3, q4⟩ := hzb
 focus
  have hda : decide (za < 0) = false := by simpa using ha0
  have hdb : decide (zb < 0) = false := by simpa using hb0
  have hx0 : (0 : Int) ≤ za := by omega
  have hy0 : (0 : Int) ≤ zb := by omega
  have hxm : za ≤ 9223372036854775807 := by omega
  have hym : zb ≤ 9223372036854775807 := by omega
 rotate_left
 focus
  have hda : decide (za < 0) = false := by simpa using ha0
  have hdb : decide (zb < 0) = true := by simpa using hb0
  have hx0 : (0 : Int) ≤ za := by omega
  have hy0 : (0 : Int) ≤ -zb := by omega
  have hxm : za ≤ 9223372036854775807 := by omega
  have hym : -zb ≤ 9223372036854775807 := by omega
 rotate_left
 focus
  have hda : decide (za < 0) = true := by simpa using ha0
  have hdb : decide (zb < 0) = false := by simpa using hb0
  have hx0 : (0 : Int) ≤ -za := by omega
  have hy0 : (0 : Int) ≤ zb := by omega
  have hxm : -za ≤ 9223372036854775807 := by omega
  have hym : zb ≤ 9223372036854775807 := by omega
 rotate_left
 focus
  have hda : decide (za < 0) = true := by simpa using ha0
  have hdb : decide (zb < 0) = true := by simpa using hb0
  have hx0 : (0 : Int) ≤ -za := by omega
  have hy0 : (0 : Int) ≤ -zb := by omega
  have hxm : -za ≤ 9223372036854775807 := by omega
  have hym : -zb ≤ 9223372036854775807 := by omega
 rotate_left
 all_goals
  obtain ⟨P, hP⟩ : ∃ P, za.natAbs * zb.natAbs = P := ⟨_, rfl⟩
  obtain ⟨H, hH⟩ : ∃ H, P / 18446744073709551616 = H := ⟨_, rfl⟩
  obtain ⟨L, hL⟩ : ∃ L, P % 18446744073709551616 = L := ⟨_, rfl⟩
 focus
  have hml := mul64_abs za.natAbs zb.natAbs (za) (zb) (by omega) (by omega) (by omega) (by omega) P H L hP hH hL
 rotate_left
 focus
  have hml := mul64_abs za.natAbs zb.natAbs (za) (-zb) (by omega) (by omega) (by omega) (by omega) P H L hP hH hL
 rotate_left
 focus
  have hml := mul64_abs za.natAbs zb.natAbs (-za) (zb) (by omega) (by omega) (by omega) (by omega) P H L hP hH hL
 rotate_left
 focus
  have hml := mul64_abs za.natAbs zb.natAbs (-za) (-zb) (by omega) (by omega) (by omega) (by omega) P H L hP hH hL
 rotate_left
 all_goals
  have hPz : (za * zb).natAbs = P := by rw [Int.natAbs_mul]; exact hP
  have hPs : P ≤ 9223372036854775807 := by unfold Small at hs; omega
  have hHz : ((H : Int) == 0) = true := by simp; omega
  have hLs : (L : Int) ≤ 9223372036854775807 := by omega
  have hLP : L = P := by omega
 focus
  have HE : Hid (za * zb = (L : Int)) := hid (by
   have h1 : 0 ≤ (za) * (zb) := Int.mul_nonneg hx0 hy0;have h2 : (za) * (zb) = za * zb := by grind
   rw [h2] at h1
   omega)
 rotate_left
 focus
  have HE : Hid (za * zb = -(L : Int)) := hid (by
   have h1 : 0 ≤ (za) * (-zb) := Int.mul_nonneg hx0 hy0;have h2 : (za) * (-zb) = -(za * zb) := by grind
   rw [h2] at h1
   omega)
 rotate_left
 focus
  have HE : Hid (za * zb = -(L : Int)) := hid (by
   have h1 : 0 ≤ (-za) * (zb) := Int.mul_nonneg hx0 hy0;have h2 : (-za) * (zb) = -(za * zb) := by grind
   rw [h2] at h1
   omega)
 rotate_left
 focus
  have HE : Hid (za * zb = (L : Int)) := hid (by
   have h1 : 0 ≤ (-za) * (-zb) := Int.mul_nonneg hx0 hy0;have h2 : (-za) * (-zb) = za * zb := by grind
   rw [h2] at h1
   omega)
 rotate_left
 all_goals
  have HS := hid hs;clear hP hH hL hPz hPs hLP hs
  go_enter Tryz.func108, Tryz.ntmps108
  go_wp2
  go_quiet (fail)
  go_wp2_with fail
  refine (hml _).mono ?_;rintro e w1 ⟨rfl, rfl⟩
  go_wp2
  rw [HE.out];have HS2 := HS.out;rw [HE.out] at HS2;exact end_int Tryz.results108 rfl rfl (new_third w _ _ _) (bJ _ HS2) (aw (below3 w _ _ _) _) (by omega)
theorem mul_big :
    (∀ {za zb : Int} (w : World) (_ : Small za) (_ : Small zb) (_ : ¬ za < 0) (_ : ¬ zb < 0) (_ : 18446744073709551616 ≤ za.natAbs * zb.natAbs) (_ : IV w (.agg #[.int .i64 za, .bool false, .slice none 0 0]) za) (_ : IV w (.agg #[.int .i64 zb, .bool false, .slice none 0 0]) zb) (_ : Fit za) (_ : Fit zb), Calls Tryz.prog 108 #[.agg #[.int .i64 za, .bool false, .slice none 0 0], .agg #[.int .i64 zb, .bool false, .slice none 0 0]] w (aY (za * zb) w)) ∧
    (∀ {za zb : Int} (w : World) (_ : Small za) (_ : Small zb) (_ : ¬ za < 0) (_ : ¬ zb < 0) (_ : 9223372036854775807 < za.natAbs * zb.natAbs ∧ za.natAbs * zb.natAbs < 18446744073709551616) (_ : IV w (.agg #[.int .i64 za, .bool false, .slice none 0 0]) za) (_ : IV w (.agg #[.int .i64 zb, .bool false, .slice none 0 0]) zb) (_ : Fit za) (_ : Fit zb), Calls Tryz.prog 108 #[.agg #[.int .i64 za, .bool false, .slice none 0 0], .agg #[.int .i64 zb, .bool false, .slice none 0 0]] w (aY (za * zb) w)) ∧
    (∀ {za zb : Int} (w : World) (_ : Small za) (_ : Small zb) (_ : ¬ za < 0) (_ : zb < 0) (_ : 18446744073709551616 ≤ za.natAbs * zb.natAbs) (_ : IV w (.agg #[.int .i64 za, .bool false, .slice none 0 0]) za) (_ : IV w (.agg #[.int .i64 zb, .bool false, .slice none 0 0]) zb) (_ : Fit za) (_ : Fit zb), Calls Tryz.prog 108 #[.agg #[.int .i64 za, .bool false, .slice none 0 0], .agg #[.int .i64 zb, .bool false, .slice none 0 0]] w (aY (za * zb) w)) ∧
    (∀ {za zb : Int} (w : World) (_ : Small za) (_ : Small zb) (_ : ¬ za < 0) (_ : zb < 0) (_ : 9223372036854775807 < za.natAbs * zb.natAbs ∧ za.natAbs * zb.natAbs < 18446744073709551616) (_ : IV w (.agg #[.int .i64 za, .bool false, .slice none 0 0]) za) (_ : IV w (.agg #[.int .i64 zb, .bool false, .slice none 0 0]) zb) (_ : Fit za) (_ : Fit zb), Calls Tryz.prog 108 #[.agg #[.int .i64 za, .bool false, .slice none 0 0], .agg #[.int .i64 zb, .bool false, .slice none 0 0]] w (aY (za * zb) w)) ∧
    (∀ {za zb : Int} (w : World) (_ : Small za) (_ : Small zb) (_ : za < 0) (_ : ¬ zb < 0) (_ : 18446744073709551616 ≤ za.natAbs * zb.natAbs) (_ : IV w (.agg #[.int .i64 za, .bool false, .slice none 0 0]) za) (_ : IV w (.agg #[.int .i64 zb, .bool false, .slice none 0 0]) zb) (_ : Fit za) (_ : Fit zb), Calls Tryz.prog 108 #[.agg #[.int .i64 za, .bool false, .slice none 0 0], .agg #[.int .i64 zb, .bool false, .slice none 0 0]] w (aY (za * zb) w)) ∧
    (∀ {za zb : Int} (w : World) (_ : Small za) (_ : Small zb) (_ : za < 0) (_ : ¬ zb < 0) (_ : 9223372036854775807 < za.natAbs * zb.natAbs ∧ za.natAbs * zb.natAbs < 18446744073709551616) (_ : IV w (.agg #[.int .i64 za, .bool false, .slice none 0 0]) za) (_ : IV w (.agg #[.int .i64 zb, .bool false, .slice none 0 0]) zb) (_ : Fit za) (_ : Fit zb), Calls Tryz.prog 108 #[.agg #[.int .i64 za, .bool false, .slice none 0 0], .agg #[.int .i64 zb, .bool false, .slice none 0 0]] w (aY (za * zb) w)) ∧
    (∀ {za zb : Int} (w : World) (_ : Small za) (_ : Small zb) (_ : za < 0) (_ : zb < 0) (_ : 18446744073709551616 ≤ za.natAbs * zb.natAbs) (_ : IV w (.agg #[.int .i64 za, .bool false, .slice none 0 0]) za) (_ : IV w (.agg #[.int .i64 zb, .bool false, .slice none 0 0]) zb) (_ : Fit za) (_ : Fit zb), Calls Tryz.prog 108 #[.agg #[.int .i64 za, .bool false, .slice none 0 0], .agg #[.int .i64 zb, .bool false, .slice none 0 0]] w (aY (za * zb) w)) ∧
    (∀ {za zb : Int} (w : World) (_ : Small za) (_ : Small zb) (_ : za < 0) (_ : zb < 0) (_ : 9223372036854775807 < za.natAbs * zb.natAbs ∧ za.natAbs * zb.natAbs < 18446744073709551616) (_ : IV w (.agg #[.int .i64 za, .bool false, .slice none 0 0]) za) (_ : IV w (.agg #[.int .i64 zb, .bool false, .slice none 0 0]) zb) (_ : Fit za) (_ : Fit zb), Calls Tryz.prog 108 #[.agg #[.int .i64 za, .bool false, .slice none 0 0], .agg #[.int .i64 zb, .bool false, .slice none 0 0]] w (aY (za * zb) w)) := by
 refine ⟨?g1, ?g2, ?g3, ?g4, ?g5, ?g6, ?g7, ?g8⟩
 focus
  intro za zb w hza hzb ha0 hb0 hs ha hb fa fb
 rotate_left
 focus
  intro za zb w hza hzb ha0 hb0 hs ha hb fa fb
 rotate_left
 focus
  intro za zb w hza hzb ha0 hb0 hs ha hb fa fb
 rotate_left
 focus
  intro za zb w hza hzb ha0 hb0 hs ha hb fa fb
 rotate_left
 focus
  intro za zb w hza hzb ha0 hb0 hs ha hb fa fb
 rotate_left
 focus
  intro za zb w hza hzb ha0 hb0 hs ha hb fa fb
 rotate_left
 focus
  intro za zb w hza hzb ha0 hb0 hs ha hb fa fb
 rotate_left
 focus
  intro za zb w hza hzb ha0 hb0 hs ha hb fa fb
 rotate_left
 all_goals
  have kq0 := mag_eql0;have hpa := fun (W' : World) (hB : Below w.heap.size w W') => parts_any _ _ W' (ha.far hB)
  have hpb := fun (W' : World) (hB : Below w.heap.size w W') => parts_any _ _ W' (hb.far hB)
  clear ha hb;obtain ⟨q1, q2⟩ := hza;obtain ⟨q3, q4⟩ := hzb
 focus
  have hda : decide (za < 0) = false := by simpa using ha0
  have hdb : decide (zb < 0) = false := by simpa using hb0
  have hx0 : (0 : Int) ≤ za := by omega
  have hy0 : (0 : Int) ≤ zb := by omega
  have hxm : za ≤ 9223372036854775807 := by omega
  have hym : zb ≤ 9223372036854775807 := by omega
 rotate_left
 focus
  have hda : decide (za < 0) = false := by simpa using ha0
  have hdb : decide (zb < 0) = false := by simpa using hb0
  have hx0 : (0 : Int) ≤ za := by omega
  have hy0 : (0 : Int) ≤ zb := by omega
  have hxm : za ≤ 9223372036854775807 := by omega
  have hym : zb ≤ 9223372036854775807 := by omega
 rotate_left
 focus
  have hda : decide (za < 0) = false := by simpa using ha0
  have hdb : decide (zb < 0) = true := by simpa using hb0
  have hx0 : (0 : Int) ≤ za := by omega
  have hy0 : (0 : Int) ≤ -zb := by omega
  have hxm : za ≤ 9223372036854775807 := by omega
  have hym : -zb ≤ 9223372036854775807 := by omega
 rotate_left
 focus
  have hda : decide (za < 0) = false := by simpa using ha0
  have hdb : decide (zb < 0) = true := by simpa using hb0
  have hx0 : (0 : Int) ≤ za := by omega
  have hy0 : (0 : Int) ≤ -zb := by omega
  have hxm : za ≤ 9223372036854775807 := by omega
  have hym : -zb ≤ 9223372036854775807 := by omega
 rotate_left
 focus
  have hda : decide (za < 0) = true := by simpa using ha0
  have hdb : decide (zb < 0) = false := by simpa using hb0
  have hx0 : (0 : Int) ≤ -za := by omega
  have hy0 : (0 : Int) ≤ zb := by omega
  have hxm : -za ≤ 9223372036854775807 := by omega
  have hym : zb ≤ 9223372036854775807 := by omega
 rotate_left
 focus
  have hda : decide (za < 0) = true := by simpa using ha0
  have hdb : decide (zb < 0) = false := by simpa using hb0
  have hx0 : (0 : Int) ≤ -za := by omega
  have hy0 : (0 : Int) ≤ zb := by omega
  have hxm : -za ≤ 9223372036854775807 := by omega
  have hym : zb ≤ 9223372036854775807 := by omega
 rotate_left
 focus
  have hda : decide (za < 0) = true := by simpa using ha0
  have hdb : decide (zb < 0) = true := by simpa using hb0
  have hx0 : (0 : Int) ≤ -za := by omega
  have hy0 : (0 : Int) ≤ -zb := by omega
  have hxm : -za ≤ 9223372036854775807 := by omega
  have hym : -zb ≤ 9223372036854775807 := by omega
 rotate_left
 focus
  have hda : decide (za < 0) = true := by simpa using ha0
  have hdb : decide (zb < 0) = true := by simpa using hb0
  have hx0 : (0 : Int) ≤ -za := by omega
  have hy0 : (0 : Int) ≤ -zb := by omega
  have hxm : -za ≤ 9223372036854775807 := by omega
  have hym : -zb ≤ 9223372036854775807 := by omega
 rotate_left
 all_goals
  obtain ⟨P, hP⟩ : ∃ P, za.natAbs * zb.natAbs = P := ⟨_, rfl⟩
  obtain ⟨H, hH⟩ : ∃ H, P / 18446744073709551616 = H := ⟨_, rfl⟩
  obtain ⟨L, hL⟩ : ∃ L, P % 18446744073709551616 = L := ⟨_, rfl⟩
 focus
  have hml := mul64_abs za.natAbs zb.natAbs (za) (zb) (by omega) (by omega) (by omega) (by omega) P H L hP hH hL
 rotate_left
 focus
  have hml := mul64_abs za.natAbs zb.natAbs (za) (zb) (by omega) (by omega) (by omega) (by omega) P H L hP hH hL
 rotate_left
 focus
  have hml := mul64_abs za.natAbs zb.natAbs (za) (-zb) (by omega) (by omega) (by omega) (by omega) P H L hP hH hL
 rotate_left
 focus
  have hml := mul64_abs za.natAbs zb.natAbs (za) (-zb) (by omega) (by omega) (by omega) (by omega) P H L hP hH hL
 rotate_left
 focus
  have hml := mul64_abs za.natAbs zb.natAbs (-za) (zb) (by omega) (by omega) (by omega) (by omega) P H L hP hH hL
 rotate_left
 focus
  have hml := mul64_abs za.natAbs zb.natAbs (-za) (zb) (by omega) (by omega) (by omega) (by omega) P H L hP hH hL
 rotate_left
 focus
  have hml := mul64_abs za.natAbs zb.natAbs (-za) (-zb) (by omega) (by omega) (by omega) (by omega) P H L hP hH hL
 rotate_left
 focus
  have hml := mul64_abs za.natAbs zb.natAbs (-za) (-zb) (by omega) (by omega) (by omega) (by omega) P H L hP hH hL
 rotate_left
 all_goals
  rw [hP] at hs
 focus
  have hHz : ((H : Int) == 0) = false := by simp; omega
 rotate_left
 focus
  have hHz : ((H : Int) == 0) = true := by simp; omega
  have hLs : ¬ (L : Int) ≤ 9223372036854775807 := by omega
 rotate_left
 focus
  have hHz : ((H : Int) == 0) = false := by simp; omega
 rotate_left
 focus
  have hHz : ((H : Int) == 0) = true := by simp; omega
  have hLs : ¬ (L : Int) ≤ 9223372036854775807 := by omega
 rotate_left
 focus
  have hHz : ((H : Int) == 0) = false := by simp; omega
 rotate_left
 focus
  have hHz : ((H : Int) == 0) = true := by simp; omega
  have hLs : ¬ (L : Int) ≤ 9223372036854775807 := by omega
 rotate_left
 focus
  have hHz : ((H : Int) == 0) = false := by simp; omega
 rotate_left
 focus
  have hHz : ((H : Int) == 0) = true := by simp; omega
  have hLs : ¬ (L : Int) ≤ 9223372036854775807 := by omega
 rotate_left
 all_goals
  have HDA := hid hda;have HDB := hid hdb;clear hP hH hL hs hda hdb
  go_enter Tryz.func108, Tryz.ntmps108
  go_wp2
  go_quiet (fail)
  go_wp2_with fail
  refine (hml _).mono ?_;rintro e w1 ⟨rfl, rfl⟩;clear ha0 hb0 hx0 hy0 q1 q2 q3 q4 hxm hym hml
  go_wp2_with fail
  refine (hpa _ (aw (below3 w _ _ _) _)).mono ?_;rintro e w1 ⟨va', la, rfl, hva, hna, hla, -, hb1⟩;have hlla := fit_len hna hla fa;obtain ⟨hc1, hf1⟩ := bcell hb1;have hz1 : w.heap.size + 2 < w1.heap.size := by have := hb1.size; simp at this; omega
  have HB1 := hid ((aw (below3 w _ _ _) _).trans (hb1.mono (by simp; omega)));have HR1 := hid ((hb1.block (w.heap.size + 2) (by simp)).trans (new_third w _ _ _));have HVA := hid hva;have HLA := hid hla;clear hb1 hva hna hla hpa
  go_wp2_with fail
  refine (hpb _ HB1.out).mono ?_;rintro e w2 ⟨vb', lb, rfl, hvb, hnb, hlb, -, hb2⟩;have hllb := fit_len hnb hlb fb;obtain ⟨hc2, hf2⟩ := bcell hb2;have hz2 : w.heap.size + 2 < w2.heap.size := by have := hb2.size; omega
  have HB2 := hid (HB1.out.trans (hb2.mono HB1.out.size));have HR2 := hid ((hb2.block (w.heap.size + 2) hz1).trans HR1.out);have HVA2 := hid (HVA.out.far hb2);have HVB := hid hvb;have HLB := hid hlb;clear hb2 hvb hnb hlb hpb HB1 HR1 HVA;have hmul := mulWords_any va' vb' la lb w2 HVA2.out HVB.out (by omega) (by omega)
  go_wp2_with fail
  refine hmul.mono ?_;rintro e w3 ⟨v3, l3, rfl, hv3, hw3, hl3, hb3⟩;have hfp := bF (decide (za < 0) != decide (zb < 0)) v3 l3 w3 hv3 (by omega);have HW3 := hid hw3;obtain ⟨hc3, hf3⟩ := bcell hb3;have hz3 : w.heap.size + 2 < w3.heap.size := by have := hb3.size; omega
  have HB3 := hid (HB2.out.trans (hb3.mono HB2.out.size));have HR3 := hid ((hb3.block (w.heap.size + 2) hz2).trans HR2.out);clear hb3 hv3 hw3 hmul
  go_wp2_with fail
  refine hfp.mono ?_;rintro e w4 ⟨v4, rfl, hv4, hb4⟩;have HV4 := hid hv4;obtain ⟨s4, b4, a4, n4, c4, rfl⟩ := ae hv4;obtain ⟨hc4, hf4⟩ := bcell hb4;have HB4 := hid (HB3.out.trans (hb4.mono HB3.out.size));have HR4 := hid ((hb4.block (w.heap.size + 2) hz3).trans HR3.out)
  have HE : Hid (sgn (decide (za < 0) != decide (zb < 0)) (wv l3) = za * zb) := hid (by
   rw [HW3.out, HLA.out, HLB.out, sgn_mul, sgn_abs, sgn_abs])
  clear hb4 hv4 hfp
  go_wp2
  rw [← HE.out];exact end_int Tryz.results108 rfl rfl HR4.out HV4.out HB4.out (by omega)
theorem mul_any (x y : Value) (za zb : Int) (w : World) (ha : IV w x za) (hb : IV w y zb) (fa : Fit za) (fb : Fit zb) : Calls Tryz.prog 108 #[x, y] w (aY (za * zb) w) := by
 rcases ha with ⟨rfl, h1⟩ | ⟨b1, g1, o1, c1, l1, rfl, h2, h3, h4⟩
 · rcases hb with ⟨rfl, k1⟩ | ⟨b2, g2, o2, c2, l2, rfl, k2, k3, k4⟩
   · by_cases hs : Small (za * zb)
     · by_cases ha0 : za < 0
       · by_cases hb0 : zb < 0
         · exact mul_fit.2.2.2 w h1 k1 ha0 hb0 hs
         · exact mul_fit.2.2.1 w h1 k1 ha0 hb0 hs
       · by_cases hb0 : zb < 0
         · exact mul_fit.2.1 w h1 k1 ha0 hb0 hs
         · exact mul_fit.1 w h1 k1 ha0 hb0 hs
     · have hm : 9223372036854775807 < za.natAbs * zb.natAbs := by
         rw [← Int.natAbs_mul]; unfold Small at hs; omega
       by_cases hh : 18446744073709551616 ≤ za.natAbs * zb.natAbs
       · by_cases ha0 : za < 0
         · by_cases hb0 : zb < 0
           · exact mul_big.2.2.2.2.2.2.1 w h1 k1 ha0 hb0 hh (.inl ⟨rfl, h1⟩) (.inl ⟨rfl, k1⟩) fa fb
           · exact mul_big.2.2.2.2.1 w h1 k1 ha0 hb0 hh (.inl ⟨rfl, h1⟩) (.inl ⟨rfl, k1⟩) fa fb
         · by_cases hb0 : zb < 0
           · exact mul_big.2.2.1 w h1 k1 ha0 hb0 hh (.inl ⟨rfl, h1⟩) (.inl ⟨rfl, k1⟩) fa fb
           · exact mul_big.1 w h1 k1 ha0 hb0 hh (.inl ⟨rfl, h1⟩) (.inl ⟨rfl, k1⟩) fa fb
       · have hh2 := And.intro hm (by omega : za.natAbs * zb.natAbs < 18446744073709551616)
         by_cases ha0 : za < 0
         · by_cases hb0 : zb < 0
           · exact mul_big.2.2.2.2.2.2.2 w h1 k1 ha0 hb0 hh2 (.inl ⟨rfl, h1⟩) (.inl ⟨rfl, k1⟩) fa fb
           · exact mul_big.2.2.2.2.2.1 w h1 k1 ha0 hb0 hh2 (.inl ⟨rfl, h1⟩) (.inl ⟨rfl, k1⟩) fa fb
         · by_cases hb0 : zb < 0
           · exact mul_big.2.2.2.1 w h1 k1 ha0 hb0 hh2 (.inl ⟨rfl, h1⟩) (.inl ⟨rfl, k1⟩) fa fb
           · exact mul_big.2.1 w h1 k1 ha0 hb0 hh2 (.inl ⟨rfl, h1⟩) (.inl ⟨rfl, k1⟩) fa fb
   · exact mul_all.2.2 w (.inl ⟨rfl, h1⟩) (.inr ⟨b2, g2, o2, c2, l2, rfl, k2, k3, k4⟩) fa fb
 · rcases hb with ⟨rfl, k1⟩ | ⟨b2, g2, o2, c2, l2, rfl, k2, k3, k4⟩
   · exact mul_all.2.1 w (.inr ⟨b1, g1, o1, c1, l1, rfl, h2, h3, h4⟩) (.inl ⟨rfl, k1⟩) fa fb
   · exact mul_all.1 w (.inr ⟨b1, g1, o1, c1, l1, rfl, h2, h3, h4⟩) (.inr ⟨b2, g2, o2, c2, l2, rfl, k2, k3, k4⟩) fa fb
end
end Go.Proofs.YteoklapcifonaaaGreatDoor

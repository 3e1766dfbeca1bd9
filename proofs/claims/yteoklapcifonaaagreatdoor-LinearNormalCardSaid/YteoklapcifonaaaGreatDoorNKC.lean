/- split: the coefficient of a variable and the expression without it. -/
import Derived.Test.YteoklapcifonaaaGreatDoorNMH
import Derived.Test.YteoklapcifonaaaGreatDoorNTF
import Derived.Test.YteoklapcifonaaaGreatDoorNNT
import Derived.Test.YteoklapcifonaaaGreatDoorNMO
open Go.Lib (hid)
namespace Go.Proofs.YteoklapcifonaaaGreatDoor
open Go.RowKit Nmx
end Go.Proofs.YteoklapcifonaaaGreatDoor
/- The reference's CoefOf and whole. -/
namespace Go.Proofs.YteoklapcifonaaaGreatDoor
open Go.RowKit Nmx
end Go.Proofs.YteoklapcifonaaaGreatDoor
/- The reference's 'without': an expression without a variable. -/
namespace Go.Proofs.YteoklapcifonaaaGreatDoor
open Go.RowKit Nmx
section
set_option maxRecDepth 100000
set_option maxHeartbeats 8000000
theorem refConstant_any (s : Int) (t : ByteArray) (w : World) : Calls Tryz.prog 135 #[.int .i64 s, .string t] w fun e w' => e = .returned (.agg #[.int .i64 s, .slice none 0 0, .string t]) ∧ Below w.heap.size w w' := by
 have HB0 : Hid (Below w.heap.size w (w.alloc (.cells #[.int .i64 0, .slice none 0 0, .string ⟨#[]⟩] 26))) := hid ((Below.refl _ _).alloc (Nat.le_refl _) _);have hx := heap_alloc_new w (.cells #[.int .i64 0, .slice none 0 0, .string ⟨#[]⟩] 26);have HX := hid hx;clear hx
 go_enter Tryz.func135, Tryz.ntmps135
 go_upto_region 1 with fail
 generalize w.alloc (.cells #[.int .i64 0, .slice none 0 0, .string ⟨#[]⟩] 26) = w1 at *;have x0 := aa HX.out 0;have x1 := aa HX.out 1;have x2 := aa HX.out 2;have fr := fun i => ah HX.out i
 go_wp2_with fail
 refine end_lin rfl rfl rfl HX.out ?_;exact ⟨rfl, ((HB0.out.setCell (Nat.le_refl _) _).setCell (Nat.le_refl _) _).setCell (Nat.le_refl _) _⟩
end
end Go.Proofs.YteoklapcifonaaaGreatDoor
/- The reference's Den, Ceil, Gcd, Lcm and Rem at texts of numbers. -/
namespace Go.Proofs.YteoklapcifonaaaGreatDoor
open Go.RowKit Nmx
section
set_option maxRecDepth 100000
set_option maxHeartbeats 4000000
theorem tx_natq (n : Nat) : TX ((n : Nat) : Rat) = ⟨(af n).toArray⟩ := by rw [← Rat.intCast_natCast]; exact tx_nat n
theorem refDenT {d : Nat} {p : Rat} (hp : DS d p) (hd : d ≤ 40000) (w : World) : Calls Tryz.prog 79 #[.string (TX p)] w (aT ((p.den : Nat) : Rat) w) := by
 obtain ⟨neg, nb, db, hps, -, -, hc⟩ := aH (TX p) (by have := DS.sz hp; omega) (tx_ratF p);have hc := hc w;have hdb : db = TX ((p.den : Nat) : Rat) := by rw [tx_natq]; exact ba_eq _ _ hps.2.2
 rw [← hdb.symm] at hc;have HDB := hid hdb;generalize TX p = tp at *;unfold aT;generalize TX ((p.den : Nat) : Rat) = td at *;clear hps hdb
 go_enter Tryz.func79, Tryz.ntmps79
 go_wp2_with fail
 refine hc.mono ?_;rintro e w1 ⟨rfl, hb⟩;have HB := hid hb;clear hb hc
 go_wp2
 go_ret
 exact ⟨rfl, HB.out.alloc HB.out.size _⟩
theorem refCeilT {d : Nat} {p : Rat} (hp : DS d p) (hd : d ≤ 30000) (w : World) : Calls Tryz.prog 84 #[.string (TX p)] w (aT ((ceI p : Int) : Rat) w) := by
 have h1 := fun W => refNegT hp (by omega) W
 have h2 := fun W => refFloorT hp.neg (by omega) W
 have h3 := fun W => refNegT hp.neg.fl (by omega) W
 have e : -((flI (-p) : Int) : Rat) = ((ceI p : Int) : Rat) := by rw [← Rat.intCast_neg]; rfl
 rw [e] at h3;unfold aT at *;have H1 := hid h1;have H2 := hid h2;have H3 := hid h3;clear h1 h2 h3 e;generalize TX p = t0 at *;generalize TX (-p) = t1 at *;generalize TX ((flI (-p) : Int) : Rat) = t2 at *;generalize TX ((ceI p : Int) : Rat) = t3 at *;clear hp
 go_enter Tryz.func84, Tryz.ntmps84
 go_wp2_with fail
 refine (H1.out _).mono ?_;rintro e w1 ⟨rfl, hb1⟩
 go_wp2_with fail
 refine (H2.out _).mono ?_;rintro e w2 ⟨rfl, hb2⟩
 go_wp2_with fail
 refine (H3.out _).mono ?_;rintro e w3 ⟨rfl, hb3⟩;have HB := hid (hb1.trans ((hb2.trans (hb3.mono hb2.size)).mono hb1.size));clear hb1 hb2 hb3
 go_wp2
 go_ret
 exact ⟨rfl, HB.out⟩
theorem int_num (a : Int) : ((a : Int) : Rat).num = a := Rat.num_intCast a
theorem refGcdI {d e : Nat} {a b : Int} (ha : DS d (a : Rat)) (hb : DS e (b : Rat)) (hd : d ≤ 990) (he : e ≤ 990) (W : World) : Calls Tryz.prog 80 #[.string (TX (a : Rat)), .string (TX (b : Rat))] W (aT (((Int.gcd a b : Nat) : Int) : Rat) W) := by
 have h := refGcd_any (TX (a : Rat)) (TX (b : Rat)) W (by have := DS.sz ha; omega) (by have := DS.sz hb; omega);rw [bQ, bQ, on2_text] at h;unfold gcdO at h;rw [if_pos ⟨Rat.den_intCast a, Rat.den_intCast b⟩, int_num, int_num] at h;exact h
theorem refRemI {d e : Nat} {a b : Int} (ha : DS d (a : Rat)) (hb : DS e (b : Rat)) (hd : d ≤ 990) (he : e ≤ 990) (h0 : b ≠ 0) (W : World) : Calls Tryz.prog 136 #[.string (TX (a : Rat)), .string (TX (b : Rat))] W (aT ((a % b : Int) : Rat) W) := by
 have h := refRem_any (TX (a : Rat)) (TX (b : Rat)) W (by have := DS.sz ha; omega) (by have := DS.sz hb; omega);rw [bQ, bQ, on2_text] at h;unfold remO at h;rw [if_pos ⟨Rat.den_intCast a, Rat.den_intCast b, by rw [int_num]; exact h0⟩, int_num, int_num] at h;exact h
theorem lcI_nat {a b : Nat} (ha : 0 < a) (hb : 0 < b) : lcI (a : Int) (b : Int) = ((Nat.lcm a b : Nat) : Int) := by
 unfold lcI;rw [if_neg (by omega)]
 congr 1
 rw [show Int.gcd (a : Int) (b : Int) = Nat.gcd a b from rfl, ← Int.natCast_ediv, ← Int.natCast_mul, Int.natAbs_natCast];unfold Nat.lcm;rw [Nat.div_mul_right_comm (Nat.gcd_dvd_left a b)]
theorem refLcmI {d e : Nat} {a b : Nat} (ha : DS d ((a : Nat) : Rat)) (hb : DS e ((b : Nat) : Rat)) (hd : d ≤ 990) (he : e ≤ 990) (h1 : 0 < a) (h2 : 0 < b) (W : World) : Calls Tryz.prog 78 #[.string (TX ((a : Nat) : Rat)), .string (TX ((b : Nat) : Rat))] W (aT ((Nat.lcm a b : Nat) : Rat) W) := by
 have h := refLcm_any (TX ((a : Nat) : Rat)) (TX ((b : Nat) : Rat)) W (by have := DS.sz ha; omega) (by have := DS.sz hb; omega);rw [bQ, bQ, on2_text] at h;unfold lcmO at h;have e1 : ∀ n : Nat, ((n : Nat) : Rat).num = (n : Int) := fun n => by rw [← Rat.intCast_natCast, Rat.num_intCast]
 have e2 : ∀ n : Nat, ((n : Nat) : Rat).den = 1 := fun n => by rw [← Rat.intCast_natCast, Rat.den_intCast]
 rw [if_pos ⟨e2 a, e2 b⟩, e1, e1, lcI_nat h1 h2, Rat.intCast_natCast] at h;exact h
end
end Go.Proofs.YteoklapcifonaaaGreatDoor
/- The reference's 'fixed'; its Normal at constant comparisons. -/
namespace Go.Proofs.YteoklapcifonaaaGreatDoor
open Go.RowKit Nmx
section
set_option maxRecDepth 100000
set_option maxHeartbeats 8000000
theorem fixed_any (b : Bool) (s : Int) (w : World) : Calls Tryz.prog 77 #[.int .i64 s, .bool b] w fun e w' => e = .returned (.agg #[.int .i64 (if b then 1 else 2), .int .i64 s, .slice none 0 0, .string ⟨#[48]⟩, .string ⟨#[]⟩]) ∧ Below w.heap.size w w' := by
 have hr := heap_alloc_new w (.cells #[.int .i64 0, .int .i64 0, .slice none 0 0, .string ⟨#[]⟩, .string ⟨#[]⟩] 39);have hb := (Below.refl w.heap.size w).alloc (Nat.le_refl _) (.cells #[.int .i64 0, .int .i64 0, .slice none 0 0, .string ⟨#[]⟩, .string ⟨#[]⟩] 39);have HR := hid hr;have HB := hid hb;clear hr hb
 go_enter Tryz.func77, Tryz.ntmps77
 go_wp2_with fail
 generalize w.alloc (.cells #[.int .i64 0, .int .i64 0, .slice none 0 0, .string ⟨#[]⟩, .string ⟨#[]⟩] 39) = w1 at *;refine (refConstant_any s _ w1).mono ?_;rintro e w2 ⟨rfl, hb⟩;replace HR := hid ((hb.block _ (ab HR.out)).trans HR.out);replace HB := hid (HB.out.trans (hb.mono HB.out.size));clear hb;cases b
 · have r0 := aa HR.out 0;have r1 := aa HR.out 1;have r2 := aa HR.out 2;have r3 := aa HR.out 3;have r4 := aa HR.out 4;have fr := fun i => ah HR.out i
   have hl := ab HR.out
   go_wp2_with fail
   have hbl := ax HB.out (Nat.le_refl _) (.int .i64 2) (.int .i64 s) (.slice none 0 0) (.string ⟨#[48]⟩) (.string ⟨#[]⟩);exact end_con rfl rfl rfl (heap_al (az HR.out _ _ _ _ _) _) ⟨rfl, hbl.alloc hbl.size _⟩
 · have r0 := aa HR.out 0;have r1 := aa HR.out 1;have r2 := aa HR.out 2;have r3 := aa HR.out 3;have r4 := aa HR.out 4;have fr := fun i => ah HR.out i
   have hl := ab HR.out
   go_wp2_with fail
   have hbl := ax HB.out (Nat.le_refl _) (.int .i64 1) (.int .i64 s) (.slice none 0 0) (.string ⟨#[48]⟩) (.string ⟨#[]⟩);exact end_con rfl rfl rfl (heap_al (az HR.out _ _ _ _ _) _) ⟨rfl, hbl.alloc hbl.size _⟩
theorem refNormal_nil [Nms] {d : Nat} {w : World} {r s : Int} {a1 : Option Addr} {n1 c1 : Nat} {t1 : ByteArray} {p : Rat} (h : LVi w (.agg #[.int .i64 s, .slice a1 n1 c1, .string t1]) s d p []) (hr : r = 1 ∨ r = 2 ∨ r = 3) (hd : d ≤ 400) {K : Nat}
    (hvl : ∀ W, Below w.heap.size w W → Calls Tryz.prog 32 #[.agg #[.int .i64 r, .int .i64 s, .slice a1 n1 c1, .string t1, .string ⟨#[]⟩]] W fun e w' => e = .returned (.bool true) ∧ Below W.heap.size W w') :
    Calls Tryz.prog 33 #[.agg #[.int .i64 r, .int .i64 s, .slice a1 n1 c1, .string t1, .string ⟨#[]⟩]] w fun e w' => ∃ r' c' f', NF r s p [] r' c' f' ∧ GetsNE r' s K c' f' w e w' := by
 obtain ⟨hn1, ht1, dp⟩ := h.length;have hsg : ∀ W, Calls Tryz.prog 75 #[.string (TX p)] W fun e w' => e = .returned (.int .i64 (bc p.num)) ∧ Below W.heap.size W w' := fun W => refSignT dp (by omega) W
 rw [← ht1] at hsg;have hn0 : n1 = 0 := hn1;subst hn0;have hNF : ∀ b : Bool, b = cmpF r p → NF r s p [] (if b then 1 else 2) 0 fun _ => 0 := fun b hb => .inl ⟨rfl, by rw [hb], rfl, rfl⟩
 have hcm : cmpF r p = (if r = 1 then decide (bc p.num ≤ 0) else if r = 2 then decide (bc p.num < 0) else decide (bc p.num = 0)) := by
  unfold cmpF;rcases hr with rfl | rfl | rfl
  · rfl
  · rfl
  · simp only [show ¬ ((3 : Int) = 1) from by decide, show ¬ ((3 : Int) = 2) from by decide, if_false];refine decide_eq_decide.2 ?_;unfold bc
    split
    · constructor <;> intro <;> omega
    · split <;> constructor <;> intro <;> omega
 rw [hcm] at hNF
 have hz : bc p.num = -1 ∨ bc p.num = 0 ∨ bc p.num = 1 := by
  unfold bc
  split
  · exact .inl rfl
  · split
    · exact .inr (.inr rfl)
    · exact .inr (.inl rfl)
 generalize bc p.num = zs at *;have HVL := hid hvl;have HSG := hid hsg;have HNF := hid hNF;obtain ⟨m1, m2, mb⟩ := newL2 w (.cells #[.int .i64 r, .int .i64 s, .slice a1 0 c1, .string t1, .string ⟨#[]⟩] 39) (.cells #[.int .i64 0, .int .i64 0, .slice none 0 0, .string ⟨#[]⟩, .string ⟨#[]⟩] 39);have HK := hid (⟨m1, m2, mb⟩ : NBX w _ r s a1 0 c1 t1);clear hvl hsg hNF hcm m1 m2 mb h hn1 ht1 dp;have q4 : (r == 4) = false := by rw [beq_eq_false_iff_ne]; omega
 have q5 : (r == 5) = false := by rw [beq_eq_false_iff_ne]; omega
 have d4 : decide (r = 4) = false := decide_eq_false (by omega);have d5 : decide (r = 5) = false := decide_eq_false (by omega)
 go_enter Tryz.func33, Tryz.ntmps33
 go_wp2_with fail
 generalize (w.alloc (.cells #[.int .i64 r, .int .i64 s, .slice a1 0 c1, .string t1, .string ⟨#[]⟩] 39)).alloc (.cells #[.int .i64 0, .int .i64 0, .slice none 0 0, .string ⟨#[]⟩, .string ⟨#[]⟩] 39) = w3 at *;refine (HVL.out _ HK.out.bel).mono ?_;rintro e w4 ⟨rfl, hb⟩;replace HK := hid (HK.out.far hb);clear hb;have p0 := aa HK.out.a 0;have p2 := aa HK.out.a 2;have p3 := aa HK.out.a 3
 go_wp2_with fail
 refine (HSG.out w4).mono ?_;rintro e w5 ⟨rfl, hb⟩;replace HK := hid (HK.out.far hb);clear hb p0 p2 p3;clear q4 q5 d4 d5;rcases hr with rfl | rfl | rfl <;> rcases hz with rfl | rfl | rfl
 all_goals
  have p0 := aa HK.out.a 0;have p1 := aa HK.out.a 1
  go_wp2_with fail
  refine (fixed_any _ s w5).mono ?_;rintro e w6 ⟨rfl, hb⟩;replace HK := hid (HK.out.far hb);clear hb p0 p1;have r0 := aa HK.out.r 0;have r1 := aa HK.out.r 1;have r2 := aa HK.out.r 2;have r3 := aa HK.out.r 3;have r4 := aa HK.out.r 4;have fr := fun i => ah HK.out.r i
  go_wp2_with fail
  exact end_con2 rfl rfl rfl rfl (az HK.out.r _ _ _ _ _) ⟨_, 0, _, HNF.out _ rfl, [], none, 0, 0, _, rfl, nilLV _ s _, fun _ => rfl, ax HK.out.bel (by omega) _ _ _ _ _⟩
end
end Go.Proofs.YteoklapcifonaaaGreatDoor

/- The statement on quotients and remainders: its walk. -/
import Derived.Test.YtgehimcngljmnaaGreatDoorCN
namespace Go.Proofs.YtgehimcngljmnaaGreatDoor
open Go.RowKit Nmx

theorem rat_int_lt {a b : Int} (h : a < b) : cmpQ (a : Rat) (b : Rat) = -1 := by unfold cmpQ; rw [if_pos (Rat.intCast_lt_intCast.2 h)]
theorem absQ_int (y : Int) : absQ (y : Rat) = ((y.natAbs : Int) : Rat) := by
  have h := abs_int (q := (y : Rat)) (Rat.den_intCast y)
  unfold absQ
  rw [h, Rat.num_intCast]
section
set_option maxRecDepth 100000
set_option maxHeartbeats 8000000
theorem division_any (s0 s1 : ByteArray) (a2 : Option Addr) (len2 cap2 : Nat) (a3 : Option Addr) (len3 cap3 : Nat) (w : World) (h : Env w) (hs0 : s0.size ≤ 9223372036854775807) (hs1 : s1.size ≤ 9223372036854775807) (ha2 : ArgI w a2 len2 cap2) (ha3 : ArgI w a3 len3 cap3) : Calls Tryz.prog 9 #[.string s0, .string s1, .slice a2 len2 cap2, .slice a3 len3 cap3] w fun e w' => e = .returned (.bool true) ∧ Below w.heap.size w w' := by
  have HE := Lib.hid h
  have HA2 := Lib.hid ha2
  have HA3 := Lib.hid ha3
  clear h ha2 ha3
  go_enter Tryz.func9, Tryz.ntmps9
  go_wp2_with fail
  refine (whole_any s0 a2 len2 cap2 _ hs0 (HA2.out.below (Below.refl _ _))).mono ?_
  rintro e w1 ⟨x, hx, rfl, hb1⟩
  have HB1 := Lib.hid hb1
  clear hb1
  go_wp2_with fail
  refine (whole_any s1 a3 len3 cap3 _ hs1 (HA3.out.below HB1.out)).mono ?_
  rintro e w2 ⟨y, hy, rfl, hb2⟩
  have HB2 := Lib.hid (HB1.out.trans (hb2.mono HB1.out.size))
  clear hb2
  have hty := tx_zero_test (y : Rat)
  rw [Rat.num_intCast] at hty
  by_cases h0 : y = 0
  · rw [decide_eq_true h0] at hty
    have q0 := fun W hW => numQuo0T hx hy (by omega) (by omega) h0 W hW
    have r0 := fun W hW => numRem0T hx hy (by omega) (by omega) h0 W hW
    clear hx hy h0
    generalize TX (x : Rat) = tx at *
    generalize TX (y : Rat) = ty at *
    go_wp2_with fail
    refine (q0 _ (HE.out.far HB2.out)).mono ?_
    rintro e w3 ⟨rfl, hb3⟩
    have HB3 := Lib.hid (HB2.out.trans (hb3.mono HB2.out.size))
    clear hb3
    go_wp2_with fail
    refine (r0 _ (HE.out.far HB3.out)).mono ?_
    rintro e w4 ⟨rfl, hb4⟩
    have HB4 := Lib.hid (HB3.out.trans (hb4.mono HB3.out.size))
    clear hb4
    go_wp2_with fail
    refine (awake_env _ (HE.out.far HB4.out)).mono ?_
    rintro e w5 ⟨rfl, hb5⟩
    have HB5 := Lib.hid (HB4.out.trans (hb5.mono HB4.out.size))
    clear hb5
    go_wp2
    go_ret
    exact ⟨rfl, HB5.out⟩
  · rw [decide_eq_false h0] at hty
    have hq : (x / y).natAbs < 10 ^ 50 := Nat.lt_of_le_of_lt (Int.natAbs_ediv_le_natAbs _ _) hx
    have hr0 := Int.emod_nonneg x h0
    have hrl : x % y < y.natAbs := Int.emod_lt x h0
    have hr : (x % y).natAbs < 10 ^ 50 := by omega
    have qq := fun W hW => numQuoT hx hy (by omega) (by omega) h0 W hW
    have rr := fun W hW => numRemT hx hy (by omega) (by omega) h0 W hW
    have mq := fun W hW => numMulT (Nmx.DS.int hy) (Nmx.DS.int hq) (by omega) (by omega) W hW
    have ad := fun W hW => numAddT ((Nmx.DS.int hy).mul (Nmx.DS.int hq)) (Nmx.DS.int hr) (by omega) (by omega) W hW
    have sr := fun W hW => numSignT (Nmx.DS.int hr) (by omega) W hW
    have ab := fun W hW => numAbsT (Nmx.DS.int hy) (by omega) W hW
    have cr := fun W hW => numCmpT (Nmx.DS.int hr) (Nmx.DS.int hy).abs (by omega) (by omega) W hW
    have sy := fun W hW => numSignT (Nmx.DS.int hy) (by omega) W hW
    have dv := fun W hW => numDivT (Nmx.DS.int hx) (Nmx.DS.int hy) (by omega) (by omega) (by rw [Rat.num_intCast]; exact h0) W hW
    have fl := fun W hW => numFloorT ((Nmx.DS.int hx).div (Nmx.DS.int hy) (by rw [Rat.num_intCast]; exact h0)) (by omega) W hW
    have e1 : (y : Rat) * ((x / y : Int) : Rat) + ((x % y : Int) : Rat) = (x : Rat) := by
      rw [← Rat.intCast_mul, ← Rat.intCast_add, Int.mul_ediv_add_emod]
    rw [e1] at ad
    rw [Rat.num_intCast] at sr sy
    rw [absQ_int] at ab cr
    rw [rat_int_lt (by omega)] at cr
    have s1 : ¬ sgnI (x % y) < 0 := by unfold sgnI; rw [if_neg (by omega)]; split <;> omega
    obtain ⟨n1, n2⟩ := tx_nonempty ((x / y : Int) : Rat)
    unfold GetsT at qq rr mq ad ab dv fl
    by_cases hneg : y < 0
    · have s2 : sgnI y < 0 := by unfold sgnI; rw [if_pos hneg]; omega
      clear hx hy h0 hq hr hr0 hrl e1 hneg dv fl
      generalize sgnI (x % y) = sr' at *
      generalize sgnI y = sy' at *
      generalize TX ((y : Rat) * ((x / y : Int) : Rat)) = t1 at *
      generalize TX ((x / y : Int) : Rat) = t2 at *
      generalize TX ((x % y : Int) : Rat) = t3 at *
      generalize TX (((y.natAbs : Int)) : Rat) = t4 at *
      generalize TX (x : Rat) = tx at *
      generalize TX (y : Rat) = ty at *
      go_wp2_with fail
      refine (qq _ (HE.out.far HB2.out)).mono ?_
      rintro e w3 ⟨rfl, hb3⟩
      have HB3 := Lib.hid (HB2.out.trans (hb3.mono HB2.out.size))
      clear hb3
      go_wp2_with fail
      refine (rr _ (HE.out.far HB3.out)).mono ?_
      rintro e w4 ⟨rfl, hb4⟩
      have HB4 := Lib.hid (HB3.out.trans (hb4.mono HB3.out.size))
      clear hb4
      go_wp2_with fail
      refine (mq _ (HE.out.far HB4.out)).mono ?_
      rintro e w5 ⟨rfl, hb5⟩
      have HB5 := Lib.hid (HB4.out.trans (hb5.mono HB4.out.size))
      clear hb5
      go_wp2_with fail
      refine (ad _ (HE.out.far HB5.out)).mono ?_
      rintro e w6 ⟨rfl, hb6⟩
      have HB6 := Lib.hid (HB5.out.trans (hb6.mono HB5.out.size))
      clear hb6
      go_wp2_with fail
      refine (sr _ (HE.out.far HB6.out)).mono ?_
      rintro e w7 ⟨rfl, hb7⟩
      have HB7 := Lib.hid (HB6.out.trans (hb7.mono HB6.out.size))
      clear hb7
      go_wp2_with fail
      refine (ab _ (HE.out.far HB7.out)).mono ?_
      rintro e w8 ⟨rfl, hb8⟩
      have HB8 := Lib.hid (HB7.out.trans (hb8.mono HB7.out.size))
      clear hb8
      go_wp2_with fail
      refine (cr _ (HE.out.far HB8.out)).mono ?_
      rintro e w9 ⟨rfl, hb9⟩
      have HB9 := Lib.hid (HB8.out.trans (hb9.mono HB8.out.size))
      clear hb9
      go_wp2_with fail
      refine (sy _ (HE.out.far HB9.out)).mono ?_
      rintro e w10 ⟨rfl, hb10⟩
      have HB10 := Lib.hid (HB9.out.trans (hb10.mono HB9.out.size))
      clear hb10
      go_wp2_with fail
      refine (awake_env _ (HE.out.far HB10.out)).mono ?_
      rintro e w11 ⟨rfl, hb11⟩
      have HB11 := Lib.hid (HB10.out.trans (hb11.mono HB10.out.size))
      clear hb11
      go_wp2
      go_ret
      exact ⟨rfl, HB11.out⟩
    · have s2 : ¬ sgnI y < 0 := by unfold sgnI; rw [if_neg hneg]; split <;> omega
      rw [flI_div x y (by omega)] at fl
      clear hx hy h0 hq hr hr0 hrl e1 hneg
      generalize sgnI (x % y) = sr' at *
      generalize sgnI y = sy' at *
      generalize TX ((x : Rat) / (y : Rat)) = t5 at *
      generalize TX ((y : Rat) * ((x / y : Int) : Rat)) = t1 at *
      generalize TX ((x / y : Int) : Rat) = t2 at *
      generalize TX ((x % y : Int) : Rat) = t3 at *
      generalize TX (((y.natAbs : Int)) : Rat) = t4 at *
      generalize TX (x : Rat) = tx at *
      generalize TX (y : Rat) = ty at *
      go_wp2_with fail
      refine (qq _ (HE.out.far HB2.out)).mono ?_
      rintro e w3 ⟨rfl, hb3⟩
      have HB3 := Lib.hid (HB2.out.trans (hb3.mono HB2.out.size))
      clear hb3
      go_wp2_with fail
      refine (rr _ (HE.out.far HB3.out)).mono ?_
      rintro e w4 ⟨rfl, hb4⟩
      have HB4 := Lib.hid (HB3.out.trans (hb4.mono HB3.out.size))
      clear hb4
      go_wp2_with fail
      refine (mq _ (HE.out.far HB4.out)).mono ?_
      rintro e w5 ⟨rfl, hb5⟩
      have HB5 := Lib.hid (HB4.out.trans (hb5.mono HB4.out.size))
      clear hb5
      go_wp2_with fail
      refine (ad _ (HE.out.far HB5.out)).mono ?_
      rintro e w6 ⟨rfl, hb6⟩
      have HB6 := Lib.hid (HB5.out.trans (hb6.mono HB5.out.size))
      clear hb6
      go_wp2_with fail
      refine (sr _ (HE.out.far HB6.out)).mono ?_
      rintro e w7 ⟨rfl, hb7⟩
      have HB7 := Lib.hid (HB6.out.trans (hb7.mono HB6.out.size))
      clear hb7
      go_wp2_with fail
      refine (ab _ (HE.out.far HB7.out)).mono ?_
      rintro e w8 ⟨rfl, hb8⟩
      have HB8 := Lib.hid (HB7.out.trans (hb8.mono HB7.out.size))
      clear hb8
      go_wp2_with fail
      refine (cr _ (HE.out.far HB8.out)).mono ?_
      rintro e w9 ⟨rfl, hb9⟩
      have HB9 := Lib.hid (HB8.out.trans (hb9.mono HB8.out.size))
      clear hb9
      go_wp2_with fail
      refine (sy _ (HE.out.far HB9.out)).mono ?_
      rintro e w10 ⟨rfl, hb10⟩
      have HB10 := Lib.hid (HB9.out.trans (hb10.mono HB9.out.size))
      clear hb10
      go_wp2_with fail
      refine (dv _ (HE.out.far HB10.out)).mono ?_
      rintro e w11 ⟨rfl, hb11⟩
      have HB11 := Lib.hid (HB10.out.trans (hb11.mono HB10.out.size))
      clear hb11
      go_wp2_with fail
      refine (fl _ (HE.out.far HB11.out)).mono ?_
      rintro e w12 ⟨rfl, hb12⟩
      have HB12 := Lib.hid (HB11.out.trans (hb12.mono HB11.out.size))
      clear hb12
      go_wp2_with fail
      refine (awake_env _ (HE.out.far HB12.out)).mono ?_
      rintro e w13 ⟨rfl, hb13⟩
      have HB13 := Lib.hid (HB12.out.trans (hb13.mono HB12.out.size))
      clear hb13
      go_wp2
      go_ret
      exact ⟨rfl, HB13.out⟩
end
end Go.Proofs.YtgehimcngljmnaaGreatDoor

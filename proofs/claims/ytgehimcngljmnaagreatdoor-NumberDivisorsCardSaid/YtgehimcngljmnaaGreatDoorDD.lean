/- The statement on common divisors: its walk. -/
import Derived.Test.YtgehimcngljmnaaGreatDoorDC
namespace Go.Proofs.YtgehimcngljmnaaGreatDoor
open Go.RowKit Nmx

theorem abs_mul_int (x y : Int) : absQ ((x : Rat) * (y : Rat)) = (((x * y).natAbs : Int) : Rat) := by rw [← Rat.intCast_mul, absQ_int]
theorem gcd_lcm_abs (x y : Int) : ((Int.gcd x y : Int) : Rat) * ((lcI x y : Int) : Rat) = absQ ((x : Rat) * (y : Rat)) := by
  rw [abs_mul_int, ← Rat.intCast_mul, gcd_lcI]
theorem gcd_scale (x y z : Int) : ((Int.gcd (x * z) (y * z) : Int) : Rat) = ((Int.gcd x y : Int) : Rat) * absQ (z : Rat) := by
  rw [absQ_int, ← Rat.intCast_mul, Int.gcd_mul_right]
  congr 1
theorem sgnI_gcd {x y : Int} (h : ¬ (x = 0 ∧ y = 0)) : ¬ sgnI (Int.gcd x y : Int) ≤ 0 := by
  have h1 : 0 < Int.gcd x y := Int.gcd_pos_iff.2 (by omega)
  unfold sgnI
  rw [if_neg (by omega), if_pos (by omega)]
  omega
theorem gcd_lt {x y : Int} (d : Nat) (hx : x.natAbs < 10 ^ d) (hy : y.natAbs < 10 ^ d) : ((Int.gcd x y : Int)).natAbs < 10 ^ d := by
  rw [Int.natAbs_natCast]
  by_cases h : x = 0
  · subst h; rw [Int.gcd_zero_left]; exact hy
  · exact Nat.lt_of_le_of_lt (Int.gcd_le_natAbs_left y h) hx
section
set_option maxRecDepth 100000
set_option maxHeartbeats 16000000
theorem divisors_any (s0 s1 s2 : ByteArray) (a3 : Option Addr) (len3 cap3 : Nat) (a4 : Option Addr) (len4 cap4 : Nat) (a5 : Option Addr) (len5 cap5 : Nat) (w : World) (h : Env w) (hs0 : s0.size ≤ 9223372036854775807) (hs1 : s1.size ≤ 9223372036854775807) (hs2 : s2.size ≤ 9223372036854775807) (ha3 : ArgI w a3 len3 cap3) (ha4 : ArgI w a4 len4 cap4) (ha5 : ArgI w a5 len5 cap5) : Calls Tryz.prog 10 #[.string s0, .string s1, .string s2, .slice a3 len3 cap3, .slice a4 len4 cap4, .slice a5 len5 cap5] w fun e w' => e = .returned (.bool true) ∧ Below w.heap.size w w' := by
  have HE := Lib.hid h
  have HA3 := Lib.hid ha3
  have HA4 := Lib.hid ha4
  have HA5 := Lib.hid ha5
  clear h ha3 ha4 ha5
  go_enter Tryz.func10, Tryz.ntmps10
  go_wp2_with fail
  refine (whole_any s0 a3 len3 cap3 _ hs0 (HA3.out.below (Below.refl _ _))).mono ?_
  rintro e w1 ⟨x, hx, rfl, hb1⟩
  have HB1 := Lib.hid hb1
  clear hb1
  go_wp2_with fail
  refine (whole_any s1 a4 len4 cap4 _ hs1 (HA4.out.below HB1.out)).mono ?_
  rintro e w2 ⟨y, hy, rfl, hb2⟩
  have HB2 := Lib.hid (HB1.out.trans (hb2.mono HB1.out.size))
  clear hb2
  go_wp2_with fail
  refine (whole_any s2 a5 len5 cap5 _ hs2 (HA5.out.below HB2.out)).mono ?_
  rintro e w3 ⟨z, hz, rfl, hb3⟩
  have HB3 := Lib.hid (HB2.out.trans (hb3.mono HB2.out.size))
  clear hb3
  have htx := tx_zero_test (x : Rat)
  rw [Rat.num_intCast] at htx
  have hty := tx_zero_test (y : Rat)
  rw [Rat.num_intCast] at hty
  have htz := tx_zero_test (z : Rat)
  rw [Rat.num_intCast] at htz
  have gc := fun W hW => numGcdT hx hy (by omega) (by omega) W hW
  have lc := fun W hW => numLcmT hx hy (by omega) (by omega) W hW
  by_cases h00 : x = 0 ∧ y = 0
  · obtain ⟨rfl, rfl⟩ := h00
    have hg0 : TX ((Int.gcd 0 0 : Int) : Rat) = ⟨#[48]⟩ := tx_int_zero
    have hl0 : TX ((lcI 0 0 : Int) : Rat) = ⟨#[48]⟩ := by
      have : lcI 0 0 = 0 := by unfold lcI; rw [if_pos (.inl rfl)]
      rw [this]; exact tx_int_zero
    unfold GetsT at gc lc
    rw [hg0] at gc
    rw [hl0] at lc
    have e0 : decide ((0 : Int) = 0) = true := decide_eq_true rfl
    rw [e0] at htx hty
    have q0 : TX ((0 : Int) : Rat) = ⟨#[48]⟩ := tx_int_zero
    clear hx hy hz hg0 hl0 e0 htx hty htz
    rw [q0]
    rw [q0] at gc lc
    clear q0
    generalize TX (z : Rat) = tz at *
    go_wp2_with fail
    refine (gc _ (HE.out.far HB3.out)).mono ?_
    rintro e w4 ⟨rfl, hb4⟩
    have HB4 := Lib.hid (HB3.out.trans (hb4.mono HB3.out.size))
    clear hb4
    go_wp2_with fail
    refine (lc _ (HE.out.far HB4.out)).mono ?_
    rintro e w5 ⟨rfl, hb5⟩
    have HB5 := Lib.hid (HB4.out.trans (hb5.mono HB4.out.size))
    clear hb5
    go_wp2_with fail
    refine (awake_env _ (HE.out.far HB5.out)).mono ?_
    rintro e w6 ⟨rfl, hb6⟩
    have HB6 := Lib.hid (HB5.out.trans (hb6.mono HB5.out.size))
    clear hb6
    go_wp2
    go_ret
    exact ⟨rfl, HB6.out⟩
  · have hg := gcd_lt 50 hx hy
    have hl : (lcI x y).natAbs < 10 ^ 100 := by
      have h1 : (lcI x y).natAbs ≤ (x * y).natAbs := by
        have h2 := gcd_lcI x y
        have h3 : 0 < Int.gcd x y := Int.gcd_pos_iff.2 (by omega)
        have h4 : (Int.gcd x y) * (lcI x y).natAbs = (x * y).natAbs := by
          have := congrArg Int.natAbs h2
          rw [Int.natAbs_mul, Int.natAbs_natCast, Int.natAbs_natCast] at this
          exact this
        rw [← h4]; exact Nat.le_mul_of_pos_left _ h3
      have h5 : (x * y).natAbs < 10 ^ 100 := by
        rw [Int.natAbs_mul, show (10 : Nat) ^ 100 = 10 ^ 50 * 10 ^ 50 from by rw [← Nat.pow_add]]
        exact Nat.mul_lt_mul_of_lt_of_le hx (Nat.le_of_lt hy) (ten_pos 50)
      omega
    have hxz : (x * z).natAbs < 10 ^ 100 := by
      rw [Int.natAbs_mul, show (10 : Nat) ^ 100 = 10 ^ 50 * 10 ^ 50 from by rw [← Nat.pow_add]]
      exact Nat.mul_lt_mul_of_lt_of_le hx (Nat.le_of_lt hz) (ten_pos 50)
    have hyz : (y * z).natAbs < 10 ^ 100 := by
      rw [Int.natAbs_mul, show (10 : Nat) ^ 100 = 10 ^ 50 * 10 ^ 50 from by rw [← Nat.pow_add]]
      exact Nat.mul_lt_mul_of_lt_of_le hy (Nat.le_of_lt hz) (ten_pos 50)
    have hgne : (Int.gcd x y : Int) ≠ 0 := by
      have h3 : 0 < Int.gcd x y := Int.gcd_pos_iff.2 (by omega)
      omega
    have sg := fun W hW => numSignT (Nmx.DS.int hg) (by omega) W hW
    have rx := fun W hW => numRemT hx hg (by omega) (by omega) hgne W hW
    have ry := fun W hW => numRemT hy hg (by omega) (by omega) hgne W hW
    have ml := fun W hW => numMulT (Nmx.DS.int hg) (Nmx.DS.int hl) (by omega) (by omega) W hW
    have mx := fun W hW => numMulT (Nmx.DS.int hx) (Nmx.DS.int hy) (by omega) (by omega) W hW
    have ab := fun W hW => numAbsT ((Nmx.DS.int hx).mul (Nmx.DS.int hy)) (by omega) W hW
    have mxz := fun W hW => numMulT (Nmx.DS.int hx) (Nmx.DS.int hz) (by omega) (by omega) W hW
    have myz := fun W hW => numMulT (Nmx.DS.int hy) (Nmx.DS.int hz) (by omega) (by omega) W hW
    have gz := fun W hW => numGcdT hxz hyz (by omega) (by omega) W hW
    have az := fun W hW => numAbsT (Nmx.DS.int hz) (by omega) W hW
    have mg := fun W hW => numMulT (Nmx.DS.int hg) (Nmx.DS.int hz).abs (by omega) (by omega) W hW
    have hsg := sgnI_gcd h00
    have er : x % (Int.gcd x y : Int) = 0 := Int.emod_eq_zero_of_dvd (Int.gcd_dvd_left ..)
    have es : y % (Int.gcd x y : Int) = 0 := Int.emod_eq_zero_of_dvd (Int.gcd_dvd_right ..)
    rw [Rat.num_intCast] at sg
    rw [er] at rx
    rw [es] at ry
    rw [gcd_lcm_abs] at ml
    rw [gcd_scale] at gz
    rw [Rat.intCast_mul, Rat.intCast_mul] at gz
    have q0 : TX ((0 : Int) : Rat) = ⟨#[48]⟩ := tx_int_zero
    unfold GetsT at gc lc rx ry ml mx ab mxz myz gz az mg
    rw [q0] at rx ry
    clear hxz hyz hl
    by_cases hx0 : x = 0
    · have hy0 : y ≠ 0 := fun h => h00 ⟨hx0, h⟩
      rw [decide_eq_true hx0] at htx
      rw [decide_eq_false hy0] at hty
      clear h00 hx0 hy0
      by_cases hz0 : z = 0
      · rw [decide_eq_true hz0] at htz
        clear hx hy hz hz0 hg hgne er es q0
        generalize sgnI (Int.gcd x y : Int) = sg1 at *
        generalize TX (absQ ((x : Rat) * (y : Rat))) = t1 at *
        generalize TX ((x : Rat) * (y : Rat)) = t2 at *
        generalize TX ((x : Rat) * (z : Rat)) = t3 at *
        generalize TX ((y : Rat) * (z : Rat)) = t4 at *
        generalize TX (((Int.gcd x y : Int) : Rat) * absQ (z : Rat)) = t5 at *
        generalize TX (absQ (z : Rat)) = t6 at *
        generalize TX ((lcI x y : Int) : Rat) = t7 at *
        generalize TX ((Int.gcd x y : Int) : Rat) = tg at *
        generalize TX (x : Rat) = tx at *
        generalize TX (y : Rat) = ty at *
        generalize TX (z : Rat) = tz at *
        go_wp2_with fail
        refine (gc _ (HE.out.far HB3.out)).mono ?_
        rintro e w4 ⟨rfl, hb4⟩
        have HB4 := Lib.hid (HB3.out.trans (hb4.mono HB3.out.size))
        clear hb4
        go_wp2_with fail
        refine (sg _ (HE.out.far HB4.out)).mono ?_
        rintro e w5 ⟨rfl, hb5⟩
        have HB5 := Lib.hid (HB4.out.trans (hb5.mono HB4.out.size))
        clear hb5
        go_wp2_with fail
        refine (rx _ (HE.out.far HB5.out)).mono ?_
        rintro e w6 ⟨rfl, hb6⟩
        have HB6 := Lib.hid (HB5.out.trans (hb6.mono HB5.out.size))
        clear hb6
        go_wp2_with fail
        refine (ry _ (HE.out.far HB6.out)).mono ?_
        rintro e w7 ⟨rfl, hb7⟩
        have HB7 := Lib.hid (HB6.out.trans (hb7.mono HB6.out.size))
        clear hb7
        go_wp2_with fail
        refine (lc _ (HE.out.far HB7.out)).mono ?_
        rintro e w8 ⟨rfl, hb8⟩
        have HB8 := Lib.hid (HB7.out.trans (hb8.mono HB7.out.size))
        clear hb8
        go_wp2_with fail
        refine (ml _ (HE.out.far HB8.out)).mono ?_
        rintro e w9 ⟨rfl, hb9⟩
        have HB9 := Lib.hid (HB8.out.trans (hb9.mono HB8.out.size))
        clear hb9
        go_wp2_with fail
        refine (mx _ (HE.out.far HB9.out)).mono ?_
        rintro e w10 ⟨rfl, hb10⟩
        have HB10 := Lib.hid (HB9.out.trans (hb10.mono HB9.out.size))
        clear hb10
        go_wp2_with fail
        refine (ab _ (HE.out.far HB10.out)).mono ?_
        rintro e w11 ⟨rfl, hb11⟩
        have HB11 := Lib.hid (HB10.out.trans (hb11.mono HB10.out.size))
        clear hb11
        go_wp2_with fail
        refine (mxz _ (HE.out.far HB11.out)).mono ?_
        rintro e w12 ⟨rfl, hb12⟩
        have HB12 := Lib.hid (HB11.out.trans (hb12.mono HB11.out.size))
        clear hb12
        go_wp2_with fail
        refine (myz _ (HE.out.far HB12.out)).mono ?_
        rintro e w13 ⟨rfl, hb13⟩
        have HB13 := Lib.hid (HB12.out.trans (hb13.mono HB12.out.size))
        clear hb13
        go_wp2_with fail
        refine (gz _ (HE.out.far HB13.out)).mono ?_
        rintro e w14 ⟨rfl, hb14⟩
        have HB14 := Lib.hid (HB13.out.trans (hb14.mono HB13.out.size))
        clear hb14
        go_wp2_with fail
        refine (az _ (HE.out.far HB14.out)).mono ?_
        rintro e w15 ⟨rfl, hb15⟩
        have HB15 := Lib.hid (HB14.out.trans (hb15.mono HB14.out.size))
        clear hb15
        go_wp2_with fail
        refine (mg _ (HE.out.far HB15.out)).mono ?_
        rintro e w16 ⟨rfl, hb16⟩
        have HB16 := Lib.hid (HB15.out.trans (hb16.mono HB15.out.size))
        clear hb16
        go_wp2_with fail
        refine (awake_env _ (HE.out.far HB16.out)).mono ?_
        rintro e w17 ⟨rfl, hb17⟩
        have HB17 := Lib.hid (HB16.out.trans (hb17.mono HB16.out.size))
        clear hb17
        go_wp2
        go_ret
        exact ⟨rfl, HB17.out⟩
      · rw [decide_eq_false hz0] at htz
        have xz := fun W hW => numRemT hx hz (by omega) (by omega) hz0 W hW
        have yz := fun W hW => numRemT hy hz (by omega) (by omega) hz0 W hW
        have g1 := fun W hW => numRemT hg hz (by omega) (by omega) hz0 W hW
        unfold GetsT at xz yz g1
        have hta := tx_zero_test ((x % z : Int) : Rat)
        rw [Rat.num_intCast] at hta
        have htb := tx_zero_test ((y % z : Int) : Rat)
        rw [Rat.num_intCast] at htb
        by_cases ha : x % z = 0
        · rw [decide_eq_true ha] at hta
          by_cases hb : y % z = 0
          · rw [decide_eq_true hb] at htb
            have hgz : (Int.gcd x y : Int) % z = 0 := Int.emod_eq_zero_of_dvd (Int.dvd_coe_gcd (Int.dvd_of_emod_eq_zero ha) (Int.dvd_of_emod_eq_zero hb))
            rw [hgz, q0] at g1
            clear hx hy hz hz0 hg hgne er es q0 ha hb hgz
            generalize sgnI (Int.gcd x y : Int) = sg1 at *
            generalize TX (absQ ((x : Rat) * (y : Rat))) = t1 at *
            generalize TX ((x : Rat) * (y : Rat)) = t2 at *
            generalize TX ((x : Rat) * (z : Rat)) = t3 at *
            generalize TX ((y : Rat) * (z : Rat)) = t4 at *
            generalize TX (((Int.gcd x y : Int) : Rat) * absQ (z : Rat)) = t5 at *
            generalize TX (absQ (z : Rat)) = t6 at *
            generalize TX ((lcI x y : Int) : Rat) = t7 at *
            generalize TX ((x % z : Int) : Rat) = t8 at *
            generalize TX ((y % z : Int) : Rat) = t9 at *
            generalize TX ((Int.gcd x y : Int) : Rat) = tg at *
            generalize TX (x : Rat) = tx at *
            generalize TX (y : Rat) = ty at *
            generalize TX (z : Rat) = tz at *
            go_wp2_with fail
            refine (gc _ (HE.out.far HB3.out)).mono ?_
            rintro e w4 ⟨rfl, hb4⟩
            have HB4 := Lib.hid (HB3.out.trans (hb4.mono HB3.out.size))
            clear hb4
            go_wp2_with fail
            refine (sg _ (HE.out.far HB4.out)).mono ?_
            rintro e w5 ⟨rfl, hb5⟩
            have HB5 := Lib.hid (HB4.out.trans (hb5.mono HB4.out.size))
            clear hb5
            go_wp2_with fail
            refine (rx _ (HE.out.far HB5.out)).mono ?_
            rintro e w6 ⟨rfl, hb6⟩
            have HB6 := Lib.hid (HB5.out.trans (hb6.mono HB5.out.size))
            clear hb6
            go_wp2_with fail
            refine (ry _ (HE.out.far HB6.out)).mono ?_
            rintro e w7 ⟨rfl, hb7⟩
            have HB7 := Lib.hid (HB6.out.trans (hb7.mono HB6.out.size))
            clear hb7
            go_wp2_with fail
            refine (lc _ (HE.out.far HB7.out)).mono ?_
            rintro e w8 ⟨rfl, hb8⟩
            have HB8 := Lib.hid (HB7.out.trans (hb8.mono HB7.out.size))
            clear hb8
            go_wp2_with fail
            refine (ml _ (HE.out.far HB8.out)).mono ?_
            rintro e w9 ⟨rfl, hb9⟩
            have HB9 := Lib.hid (HB8.out.trans (hb9.mono HB8.out.size))
            clear hb9
            go_wp2_with fail
            refine (mx _ (HE.out.far HB9.out)).mono ?_
            rintro e w10 ⟨rfl, hb10⟩
            have HB10 := Lib.hid (HB9.out.trans (hb10.mono HB9.out.size))
            clear hb10
            go_wp2_with fail
            refine (ab _ (HE.out.far HB10.out)).mono ?_
            rintro e w11 ⟨rfl, hb11⟩
            have HB11 := Lib.hid (HB10.out.trans (hb11.mono HB10.out.size))
            clear hb11
            go_wp2_with fail
            refine (xz _ (HE.out.far HB11.out)).mono ?_
            rintro e w12 ⟨rfl, hb12⟩
            have HB12 := Lib.hid (HB11.out.trans (hb12.mono HB11.out.size))
            clear hb12
            go_wp2_with fail
            refine (yz _ (HE.out.far HB12.out)).mono ?_
            rintro e w13 ⟨rfl, hb13⟩
            have HB13 := Lib.hid (HB12.out.trans (hb13.mono HB12.out.size))
            clear hb13
            go_wp2_with fail
            refine (g1 _ (HE.out.far HB13.out)).mono ?_
            rintro e w14 ⟨rfl, hb14⟩
            have HB14 := Lib.hid (HB13.out.trans (hb14.mono HB13.out.size))
            clear hb14
            go_wp2_with fail
            refine (mxz _ (HE.out.far HB14.out)).mono ?_
            rintro e w15 ⟨rfl, hb15⟩
            have HB15 := Lib.hid (HB14.out.trans (hb15.mono HB14.out.size))
            clear hb15
            go_wp2_with fail
            refine (myz _ (HE.out.far HB15.out)).mono ?_
            rintro e w16 ⟨rfl, hb16⟩
            have HB16 := Lib.hid (HB15.out.trans (hb16.mono HB15.out.size))
            clear hb16
            go_wp2_with fail
            refine (gz _ (HE.out.far HB16.out)).mono ?_
            rintro e w17 ⟨rfl, hb17⟩
            have HB17 := Lib.hid (HB16.out.trans (hb17.mono HB16.out.size))
            clear hb17
            go_wp2_with fail
            refine (az _ (HE.out.far HB17.out)).mono ?_
            rintro e w18 ⟨rfl, hb18⟩
            have HB18 := Lib.hid (HB17.out.trans (hb18.mono HB17.out.size))
            clear hb18
            go_wp2_with fail
            refine (mg _ (HE.out.far HB18.out)).mono ?_
            rintro e w19 ⟨rfl, hb19⟩
            have HB19 := Lib.hid (HB18.out.trans (hb19.mono HB18.out.size))
            clear hb19
            go_wp2_with fail
            refine (awake_env _ (HE.out.far HB19.out)).mono ?_
            rintro e w20 ⟨rfl, hb20⟩
            have HB20 := Lib.hid (HB19.out.trans (hb20.mono HB19.out.size))
            clear hb20
            go_wp2
            go_ret
            exact ⟨rfl, HB20.out⟩
          · rw [decide_eq_false hb] at htb
            clear g1 hx hy hz hz0 hg hgne er es q0 ha hb
            generalize sgnI (Int.gcd x y : Int) = sg1 at *
            generalize TX (absQ ((x : Rat) * (y : Rat))) = t1 at *
            generalize TX ((x : Rat) * (y : Rat)) = t2 at *
            generalize TX ((x : Rat) * (z : Rat)) = t3 at *
            generalize TX ((y : Rat) * (z : Rat)) = t4 at *
            generalize TX (((Int.gcd x y : Int) : Rat) * absQ (z : Rat)) = t5 at *
            generalize TX (absQ (z : Rat)) = t6 at *
            generalize TX ((lcI x y : Int) : Rat) = t7 at *
            generalize TX ((x % z : Int) : Rat) = t8 at *
            generalize TX ((y % z : Int) : Rat) = t9 at *
            generalize TX ((Int.gcd x y : Int) : Rat) = tg at *
            generalize TX (x : Rat) = tx at *
            generalize TX (y : Rat) = ty at *
            generalize TX (z : Rat) = tz at *
            go_wp2_with fail
            refine (gc _ (HE.out.far HB3.out)).mono ?_
            rintro e w4 ⟨rfl, hb4⟩
            have HB4 := Lib.hid (HB3.out.trans (hb4.mono HB3.out.size))
            clear hb4
            go_wp2_with fail
            refine (sg _ (HE.out.far HB4.out)).mono ?_
            rintro e w5 ⟨rfl, hb5⟩
            have HB5 := Lib.hid (HB4.out.trans (hb5.mono HB4.out.size))
            clear hb5
            go_wp2_with fail
            refine (rx _ (HE.out.far HB5.out)).mono ?_
            rintro e w6 ⟨rfl, hb6⟩
            have HB6 := Lib.hid (HB5.out.trans (hb6.mono HB5.out.size))
            clear hb6
            go_wp2_with fail
            refine (ry _ (HE.out.far HB6.out)).mono ?_
            rintro e w7 ⟨rfl, hb7⟩
            have HB7 := Lib.hid (HB6.out.trans (hb7.mono HB6.out.size))
            clear hb7
            go_wp2_with fail
            refine (lc _ (HE.out.far HB7.out)).mono ?_
            rintro e w8 ⟨rfl, hb8⟩
            have HB8 := Lib.hid (HB7.out.trans (hb8.mono HB7.out.size))
            clear hb8
            go_wp2_with fail
            refine (ml _ (HE.out.far HB8.out)).mono ?_
            rintro e w9 ⟨rfl, hb9⟩
            have HB9 := Lib.hid (HB8.out.trans (hb9.mono HB8.out.size))
            clear hb9
            go_wp2_with fail
            refine (mx _ (HE.out.far HB9.out)).mono ?_
            rintro e w10 ⟨rfl, hb10⟩
            have HB10 := Lib.hid (HB9.out.trans (hb10.mono HB9.out.size))
            clear hb10
            go_wp2_with fail
            refine (ab _ (HE.out.far HB10.out)).mono ?_
            rintro e w11 ⟨rfl, hb11⟩
            have HB11 := Lib.hid (HB10.out.trans (hb11.mono HB10.out.size))
            clear hb11
            go_wp2_with fail
            refine (xz _ (HE.out.far HB11.out)).mono ?_
            rintro e w12 ⟨rfl, hb12⟩
            have HB12 := Lib.hid (HB11.out.trans (hb12.mono HB11.out.size))
            clear hb12
            go_wp2_with fail
            refine (yz _ (HE.out.far HB12.out)).mono ?_
            rintro e w13 ⟨rfl, hb13⟩
            have HB13 := Lib.hid (HB12.out.trans (hb13.mono HB12.out.size))
            clear hb13
            go_wp2_with fail
            refine (mxz _ (HE.out.far HB13.out)).mono ?_
            rintro e w14 ⟨rfl, hb14⟩
            have HB14 := Lib.hid (HB13.out.trans (hb14.mono HB13.out.size))
            clear hb14
            go_wp2_with fail
            refine (myz _ (HE.out.far HB14.out)).mono ?_
            rintro e w15 ⟨rfl, hb15⟩
            have HB15 := Lib.hid (HB14.out.trans (hb15.mono HB14.out.size))
            clear hb15
            go_wp2_with fail
            refine (gz _ (HE.out.far HB15.out)).mono ?_
            rintro e w16 ⟨rfl, hb16⟩
            have HB16 := Lib.hid (HB15.out.trans (hb16.mono HB15.out.size))
            clear hb16
            go_wp2_with fail
            refine (az _ (HE.out.far HB16.out)).mono ?_
            rintro e w17 ⟨rfl, hb17⟩
            have HB17 := Lib.hid (HB16.out.trans (hb17.mono HB16.out.size))
            clear hb17
            go_wp2_with fail
            refine (mg _ (HE.out.far HB17.out)).mono ?_
            rintro e w18 ⟨rfl, hb18⟩
            have HB18 := Lib.hid (HB17.out.trans (hb18.mono HB17.out.size))
            clear hb18
            go_wp2_with fail
            refine (awake_env _ (HE.out.far HB18.out)).mono ?_
            rintro e w19 ⟨rfl, hb19⟩
            have HB19 := Lib.hid (HB18.out.trans (hb19.mono HB18.out.size))
            clear hb19
            go_wp2
            go_ret
            exact ⟨rfl, HB19.out⟩
        · rw [decide_eq_false ha] at hta
          clear yz g1 htb hx hy hz hz0 hg hgne er es q0 ha
          generalize sgnI (Int.gcd x y : Int) = sg1 at *
          generalize TX (absQ ((x : Rat) * (y : Rat))) = t1 at *
          generalize TX ((x : Rat) * (y : Rat)) = t2 at *
          generalize TX ((x : Rat) * (z : Rat)) = t3 at *
          generalize TX ((y : Rat) * (z : Rat)) = t4 at *
          generalize TX (((Int.gcd x y : Int) : Rat) * absQ (z : Rat)) = t5 at *
          generalize TX (absQ (z : Rat)) = t6 at *
          generalize TX ((lcI x y : Int) : Rat) = t7 at *
          generalize TX ((x % z : Int) : Rat) = t8 at *
          generalize TX ((Int.gcd x y : Int) : Rat) = tg at *
          generalize TX (x : Rat) = tx at *
          generalize TX (y : Rat) = ty at *
          generalize TX (z : Rat) = tz at *
          go_wp2_with fail
          refine (gc _ (HE.out.far HB3.out)).mono ?_
          rintro e w4 ⟨rfl, hb4⟩
          have HB4 := Lib.hid (HB3.out.trans (hb4.mono HB3.out.size))
          clear hb4
          go_wp2_with fail
          refine (sg _ (HE.out.far HB4.out)).mono ?_
          rintro e w5 ⟨rfl, hb5⟩
          have HB5 := Lib.hid (HB4.out.trans (hb5.mono HB4.out.size))
          clear hb5
          go_wp2_with fail
          refine (rx _ (HE.out.far HB5.out)).mono ?_
          rintro e w6 ⟨rfl, hb6⟩
          have HB6 := Lib.hid (HB5.out.trans (hb6.mono HB5.out.size))
          clear hb6
          go_wp2_with fail
          refine (ry _ (HE.out.far HB6.out)).mono ?_
          rintro e w7 ⟨rfl, hb7⟩
          have HB7 := Lib.hid (HB6.out.trans (hb7.mono HB6.out.size))
          clear hb7
          go_wp2_with fail
          refine (lc _ (HE.out.far HB7.out)).mono ?_
          rintro e w8 ⟨rfl, hb8⟩
          have HB8 := Lib.hid (HB7.out.trans (hb8.mono HB7.out.size))
          clear hb8
          go_wp2_with fail
          refine (ml _ (HE.out.far HB8.out)).mono ?_
          rintro e w9 ⟨rfl, hb9⟩
          have HB9 := Lib.hid (HB8.out.trans (hb9.mono HB8.out.size))
          clear hb9
          go_wp2_with fail
          refine (mx _ (HE.out.far HB9.out)).mono ?_
          rintro e w10 ⟨rfl, hb10⟩
          have HB10 := Lib.hid (HB9.out.trans (hb10.mono HB9.out.size))
          clear hb10
          go_wp2_with fail
          refine (ab _ (HE.out.far HB10.out)).mono ?_
          rintro e w11 ⟨rfl, hb11⟩
          have HB11 := Lib.hid (HB10.out.trans (hb11.mono HB10.out.size))
          clear hb11
          go_wp2_with fail
          refine (xz _ (HE.out.far HB11.out)).mono ?_
          rintro e w12 ⟨rfl, hb12⟩
          have HB12 := Lib.hid (HB11.out.trans (hb12.mono HB11.out.size))
          clear hb12
          go_wp2_with fail
          refine (mxz _ (HE.out.far HB12.out)).mono ?_
          rintro e w13 ⟨rfl, hb13⟩
          have HB13 := Lib.hid (HB12.out.trans (hb13.mono HB12.out.size))
          clear hb13
          go_wp2_with fail
          refine (myz _ (HE.out.far HB13.out)).mono ?_
          rintro e w14 ⟨rfl, hb14⟩
          have HB14 := Lib.hid (HB13.out.trans (hb14.mono HB13.out.size))
          clear hb14
          go_wp2_with fail
          refine (gz _ (HE.out.far HB14.out)).mono ?_
          rintro e w15 ⟨rfl, hb15⟩
          have HB15 := Lib.hid (HB14.out.trans (hb15.mono HB14.out.size))
          clear hb15
          go_wp2_with fail
          refine (az _ (HE.out.far HB15.out)).mono ?_
          rintro e w16 ⟨rfl, hb16⟩
          have HB16 := Lib.hid (HB15.out.trans (hb16.mono HB15.out.size))
          clear hb16
          go_wp2_with fail
          refine (mg _ (HE.out.far HB16.out)).mono ?_
          rintro e w17 ⟨rfl, hb17⟩
          have HB17 := Lib.hid (HB16.out.trans (hb17.mono HB16.out.size))
          clear hb17
          go_wp2_with fail
          refine (awake_env _ (HE.out.far HB17.out)).mono ?_
          rintro e w18 ⟨rfl, hb18⟩
          have HB18 := Lib.hid (HB17.out.trans (hb18.mono HB17.out.size))
          clear hb18
          go_wp2
          go_ret
          exact ⟨rfl, HB18.out⟩
    · rw [decide_eq_false hx0] at htx
      clear h00 hx0 hty
      by_cases hz0 : z = 0
      · rw [decide_eq_true hz0] at htz
        clear hx hy hz hz0 hg hgne er es q0
        generalize sgnI (Int.gcd x y : Int) = sg1 at *
        generalize TX (absQ ((x : Rat) * (y : Rat))) = t1 at *
        generalize TX ((x : Rat) * (y : Rat)) = t2 at *
        generalize TX ((x : Rat) * (z : Rat)) = t3 at *
        generalize TX ((y : Rat) * (z : Rat)) = t4 at *
        generalize TX (((Int.gcd x y : Int) : Rat) * absQ (z : Rat)) = t5 at *
        generalize TX (absQ (z : Rat)) = t6 at *
        generalize TX ((lcI x y : Int) : Rat) = t7 at *
        generalize TX ((Int.gcd x y : Int) : Rat) = tg at *
        generalize TX (x : Rat) = tx at *
        generalize TX (y : Rat) = ty at *
        generalize TX (z : Rat) = tz at *
        go_wp2_with fail
        refine (gc _ (HE.out.far HB3.out)).mono ?_
        rintro e w4 ⟨rfl, hb4⟩
        have HB4 := Lib.hid (HB3.out.trans (hb4.mono HB3.out.size))
        clear hb4
        go_wp2_with fail
        refine (sg _ (HE.out.far HB4.out)).mono ?_
        rintro e w5 ⟨rfl, hb5⟩
        have HB5 := Lib.hid (HB4.out.trans (hb5.mono HB4.out.size))
        clear hb5
        go_wp2_with fail
        refine (rx _ (HE.out.far HB5.out)).mono ?_
        rintro e w6 ⟨rfl, hb6⟩
        have HB6 := Lib.hid (HB5.out.trans (hb6.mono HB5.out.size))
        clear hb6
        go_wp2_with fail
        refine (ry _ (HE.out.far HB6.out)).mono ?_
        rintro e w7 ⟨rfl, hb7⟩
        have HB7 := Lib.hid (HB6.out.trans (hb7.mono HB6.out.size))
        clear hb7
        go_wp2_with fail
        refine (lc _ (HE.out.far HB7.out)).mono ?_
        rintro e w8 ⟨rfl, hb8⟩
        have HB8 := Lib.hid (HB7.out.trans (hb8.mono HB7.out.size))
        clear hb8
        go_wp2_with fail
        refine (ml _ (HE.out.far HB8.out)).mono ?_
        rintro e w9 ⟨rfl, hb9⟩
        have HB9 := Lib.hid (HB8.out.trans (hb9.mono HB8.out.size))
        clear hb9
        go_wp2_with fail
        refine (mx _ (HE.out.far HB9.out)).mono ?_
        rintro e w10 ⟨rfl, hb10⟩
        have HB10 := Lib.hid (HB9.out.trans (hb10.mono HB9.out.size))
        clear hb10
        go_wp2_with fail
        refine (ab _ (HE.out.far HB10.out)).mono ?_
        rintro e w11 ⟨rfl, hb11⟩
        have HB11 := Lib.hid (HB10.out.trans (hb11.mono HB10.out.size))
        clear hb11
        go_wp2_with fail
        refine (mxz _ (HE.out.far HB11.out)).mono ?_
        rintro e w12 ⟨rfl, hb12⟩
        have HB12 := Lib.hid (HB11.out.trans (hb12.mono HB11.out.size))
        clear hb12
        go_wp2_with fail
        refine (myz _ (HE.out.far HB12.out)).mono ?_
        rintro e w13 ⟨rfl, hb13⟩
        have HB13 := Lib.hid (HB12.out.trans (hb13.mono HB12.out.size))
        clear hb13
        go_wp2_with fail
        refine (gz _ (HE.out.far HB13.out)).mono ?_
        rintro e w14 ⟨rfl, hb14⟩
        have HB14 := Lib.hid (HB13.out.trans (hb14.mono HB13.out.size))
        clear hb14
        go_wp2_with fail
        refine (az _ (HE.out.far HB14.out)).mono ?_
        rintro e w15 ⟨rfl, hb15⟩
        have HB15 := Lib.hid (HB14.out.trans (hb15.mono HB14.out.size))
        clear hb15
        go_wp2_with fail
        refine (mg _ (HE.out.far HB15.out)).mono ?_
        rintro e w16 ⟨rfl, hb16⟩
        have HB16 := Lib.hid (HB15.out.trans (hb16.mono HB15.out.size))
        clear hb16
        go_wp2_with fail
        refine (awake_env _ (HE.out.far HB16.out)).mono ?_
        rintro e w17 ⟨rfl, hb17⟩
        have HB17 := Lib.hid (HB16.out.trans (hb17.mono HB16.out.size))
        clear hb17
        go_wp2
        go_ret
        exact ⟨rfl, HB17.out⟩
      · rw [decide_eq_false hz0] at htz
        have xz := fun W hW => numRemT hx hz (by omega) (by omega) hz0 W hW
        have yz := fun W hW => numRemT hy hz (by omega) (by omega) hz0 W hW
        have g1 := fun W hW => numRemT hg hz (by omega) (by omega) hz0 W hW
        unfold GetsT at xz yz g1
        have hta := tx_zero_test ((x % z : Int) : Rat)
        rw [Rat.num_intCast] at hta
        have htb := tx_zero_test ((y % z : Int) : Rat)
        rw [Rat.num_intCast] at htb
        by_cases ha : x % z = 0
        · rw [decide_eq_true ha] at hta
          by_cases hb : y % z = 0
          · rw [decide_eq_true hb] at htb
            have hgz : (Int.gcd x y : Int) % z = 0 := Int.emod_eq_zero_of_dvd (Int.dvd_coe_gcd (Int.dvd_of_emod_eq_zero ha) (Int.dvd_of_emod_eq_zero hb))
            rw [hgz, q0] at g1
            clear hx hy hz hz0 hg hgne er es q0 ha hb hgz
            generalize sgnI (Int.gcd x y : Int) = sg1 at *
            generalize TX (absQ ((x : Rat) * (y : Rat))) = t1 at *
            generalize TX ((x : Rat) * (y : Rat)) = t2 at *
            generalize TX ((x : Rat) * (z : Rat)) = t3 at *
            generalize TX ((y : Rat) * (z : Rat)) = t4 at *
            generalize TX (((Int.gcd x y : Int) : Rat) * absQ (z : Rat)) = t5 at *
            generalize TX (absQ (z : Rat)) = t6 at *
            generalize TX ((lcI x y : Int) : Rat) = t7 at *
            generalize TX ((x % z : Int) : Rat) = t8 at *
            generalize TX ((y % z : Int) : Rat) = t9 at *
            generalize TX ((Int.gcd x y : Int) : Rat) = tg at *
            generalize TX (x : Rat) = tx at *
            generalize TX (y : Rat) = ty at *
            generalize TX (z : Rat) = tz at *
            go_wp2_with fail
            refine (gc _ (HE.out.far HB3.out)).mono ?_
            rintro e w4 ⟨rfl, hb4⟩
            have HB4 := Lib.hid (HB3.out.trans (hb4.mono HB3.out.size))
            clear hb4
            go_wp2_with fail
            refine (sg _ (HE.out.far HB4.out)).mono ?_
            rintro e w5 ⟨rfl, hb5⟩
            have HB5 := Lib.hid (HB4.out.trans (hb5.mono HB4.out.size))
            clear hb5
            go_wp2_with fail
            refine (rx _ (HE.out.far HB5.out)).mono ?_
            rintro e w6 ⟨rfl, hb6⟩
            have HB6 := Lib.hid (HB5.out.trans (hb6.mono HB5.out.size))
            clear hb6
            go_wp2_with fail
            refine (ry _ (HE.out.far HB6.out)).mono ?_
            rintro e w7 ⟨rfl, hb7⟩
            have HB7 := Lib.hid (HB6.out.trans (hb7.mono HB6.out.size))
            clear hb7
            go_wp2_with fail
            refine (lc _ (HE.out.far HB7.out)).mono ?_
            rintro e w8 ⟨rfl, hb8⟩
            have HB8 := Lib.hid (HB7.out.trans (hb8.mono HB7.out.size))
            clear hb8
            go_wp2_with fail
            refine (ml _ (HE.out.far HB8.out)).mono ?_
            rintro e w9 ⟨rfl, hb9⟩
            have HB9 := Lib.hid (HB8.out.trans (hb9.mono HB8.out.size))
            clear hb9
            go_wp2_with fail
            refine (mx _ (HE.out.far HB9.out)).mono ?_
            rintro e w10 ⟨rfl, hb10⟩
            have HB10 := Lib.hid (HB9.out.trans (hb10.mono HB9.out.size))
            clear hb10
            go_wp2_with fail
            refine (ab _ (HE.out.far HB10.out)).mono ?_
            rintro e w11 ⟨rfl, hb11⟩
            have HB11 := Lib.hid (HB10.out.trans (hb11.mono HB10.out.size))
            clear hb11
            go_wp2_with fail
            refine (xz _ (HE.out.far HB11.out)).mono ?_
            rintro e w12 ⟨rfl, hb12⟩
            have HB12 := Lib.hid (HB11.out.trans (hb12.mono HB11.out.size))
            clear hb12
            go_wp2_with fail
            refine (yz _ (HE.out.far HB12.out)).mono ?_
            rintro e w13 ⟨rfl, hb13⟩
            have HB13 := Lib.hid (HB12.out.trans (hb13.mono HB12.out.size))
            clear hb13
            go_wp2_with fail
            refine (g1 _ (HE.out.far HB13.out)).mono ?_
            rintro e w14 ⟨rfl, hb14⟩
            have HB14 := Lib.hid (HB13.out.trans (hb14.mono HB13.out.size))
            clear hb14
            go_wp2_with fail
            refine (mxz _ (HE.out.far HB14.out)).mono ?_
            rintro e w15 ⟨rfl, hb15⟩
            have HB15 := Lib.hid (HB14.out.trans (hb15.mono HB14.out.size))
            clear hb15
            go_wp2_with fail
            refine (myz _ (HE.out.far HB15.out)).mono ?_
            rintro e w16 ⟨rfl, hb16⟩
            have HB16 := Lib.hid (HB15.out.trans (hb16.mono HB15.out.size))
            clear hb16
            go_wp2_with fail
            refine (gz _ (HE.out.far HB16.out)).mono ?_
            rintro e w17 ⟨rfl, hb17⟩
            have HB17 := Lib.hid (HB16.out.trans (hb17.mono HB16.out.size))
            clear hb17
            go_wp2_with fail
            refine (az _ (HE.out.far HB17.out)).mono ?_
            rintro e w18 ⟨rfl, hb18⟩
            have HB18 := Lib.hid (HB17.out.trans (hb18.mono HB17.out.size))
            clear hb18
            go_wp2_with fail
            refine (mg _ (HE.out.far HB18.out)).mono ?_
            rintro e w19 ⟨rfl, hb19⟩
            have HB19 := Lib.hid (HB18.out.trans (hb19.mono HB18.out.size))
            clear hb19
            go_wp2_with fail
            refine (awake_env _ (HE.out.far HB19.out)).mono ?_
            rintro e w20 ⟨rfl, hb20⟩
            have HB20 := Lib.hid (HB19.out.trans (hb20.mono HB19.out.size))
            clear hb20
            go_wp2
            go_ret
            exact ⟨rfl, HB20.out⟩
          · rw [decide_eq_false hb] at htb
            clear g1 hx hy hz hz0 hg hgne er es q0 ha hb
            generalize sgnI (Int.gcd x y : Int) = sg1 at *
            generalize TX (absQ ((x : Rat) * (y : Rat))) = t1 at *
            generalize TX ((x : Rat) * (y : Rat)) = t2 at *
            generalize TX ((x : Rat) * (z : Rat)) = t3 at *
            generalize TX ((y : Rat) * (z : Rat)) = t4 at *
            generalize TX (((Int.gcd x y : Int) : Rat) * absQ (z : Rat)) = t5 at *
            generalize TX (absQ (z : Rat)) = t6 at *
            generalize TX ((lcI x y : Int) : Rat) = t7 at *
            generalize TX ((x % z : Int) : Rat) = t8 at *
            generalize TX ((y % z : Int) : Rat) = t9 at *
            generalize TX ((Int.gcd x y : Int) : Rat) = tg at *
            generalize TX (x : Rat) = tx at *
            generalize TX (y : Rat) = ty at *
            generalize TX (z : Rat) = tz at *
            go_wp2_with fail
            refine (gc _ (HE.out.far HB3.out)).mono ?_
            rintro e w4 ⟨rfl, hb4⟩
            have HB4 := Lib.hid (HB3.out.trans (hb4.mono HB3.out.size))
            clear hb4
            go_wp2_with fail
            refine (sg _ (HE.out.far HB4.out)).mono ?_
            rintro e w5 ⟨rfl, hb5⟩
            have HB5 := Lib.hid (HB4.out.trans (hb5.mono HB4.out.size))
            clear hb5
            go_wp2_with fail
            refine (rx _ (HE.out.far HB5.out)).mono ?_
            rintro e w6 ⟨rfl, hb6⟩
            have HB6 := Lib.hid (HB5.out.trans (hb6.mono HB5.out.size))
            clear hb6
            go_wp2_with fail
            refine (ry _ (HE.out.far HB6.out)).mono ?_
            rintro e w7 ⟨rfl, hb7⟩
            have HB7 := Lib.hid (HB6.out.trans (hb7.mono HB6.out.size))
            clear hb7
            go_wp2_with fail
            refine (lc _ (HE.out.far HB7.out)).mono ?_
            rintro e w8 ⟨rfl, hb8⟩
            have HB8 := Lib.hid (HB7.out.trans (hb8.mono HB7.out.size))
            clear hb8
            go_wp2_with fail
            refine (ml _ (HE.out.far HB8.out)).mono ?_
            rintro e w9 ⟨rfl, hb9⟩
            have HB9 := Lib.hid (HB8.out.trans (hb9.mono HB8.out.size))
            clear hb9
            go_wp2_with fail
            refine (mx _ (HE.out.far HB9.out)).mono ?_
            rintro e w10 ⟨rfl, hb10⟩
            have HB10 := Lib.hid (HB9.out.trans (hb10.mono HB9.out.size))
            clear hb10
            go_wp2_with fail
            refine (ab _ (HE.out.far HB10.out)).mono ?_
            rintro e w11 ⟨rfl, hb11⟩
            have HB11 := Lib.hid (HB10.out.trans (hb11.mono HB10.out.size))
            clear hb11
            go_wp2_with fail
            refine (xz _ (HE.out.far HB11.out)).mono ?_
            rintro e w12 ⟨rfl, hb12⟩
            have HB12 := Lib.hid (HB11.out.trans (hb12.mono HB11.out.size))
            clear hb12
            go_wp2_with fail
            refine (yz _ (HE.out.far HB12.out)).mono ?_
            rintro e w13 ⟨rfl, hb13⟩
            have HB13 := Lib.hid (HB12.out.trans (hb13.mono HB12.out.size))
            clear hb13
            go_wp2_with fail
            refine (mxz _ (HE.out.far HB13.out)).mono ?_
            rintro e w14 ⟨rfl, hb14⟩
            have HB14 := Lib.hid (HB13.out.trans (hb14.mono HB13.out.size))
            clear hb14
            go_wp2_with fail
            refine (myz _ (HE.out.far HB14.out)).mono ?_
            rintro e w15 ⟨rfl, hb15⟩
            have HB15 := Lib.hid (HB14.out.trans (hb15.mono HB14.out.size))
            clear hb15
            go_wp2_with fail
            refine (gz _ (HE.out.far HB15.out)).mono ?_
            rintro e w16 ⟨rfl, hb16⟩
            have HB16 := Lib.hid (HB15.out.trans (hb16.mono HB15.out.size))
            clear hb16
            go_wp2_with fail
            refine (az _ (HE.out.far HB16.out)).mono ?_
            rintro e w17 ⟨rfl, hb17⟩
            have HB17 := Lib.hid (HB16.out.trans (hb17.mono HB16.out.size))
            clear hb17
            go_wp2_with fail
            refine (mg _ (HE.out.far HB17.out)).mono ?_
            rintro e w18 ⟨rfl, hb18⟩
            have HB18 := Lib.hid (HB17.out.trans (hb18.mono HB17.out.size))
            clear hb18
            go_wp2_with fail
            refine (awake_env _ (HE.out.far HB18.out)).mono ?_
            rintro e w19 ⟨rfl, hb19⟩
            have HB19 := Lib.hid (HB18.out.trans (hb19.mono HB18.out.size))
            clear hb19
            go_wp2
            go_ret
            exact ⟨rfl, HB19.out⟩
        · rw [decide_eq_false ha] at hta
          clear yz g1 htb hx hy hz hz0 hg hgne er es q0 ha
          generalize sgnI (Int.gcd x y : Int) = sg1 at *
          generalize TX (absQ ((x : Rat) * (y : Rat))) = t1 at *
          generalize TX ((x : Rat) * (y : Rat)) = t2 at *
          generalize TX ((x : Rat) * (z : Rat)) = t3 at *
          generalize TX ((y : Rat) * (z : Rat)) = t4 at *
          generalize TX (((Int.gcd x y : Int) : Rat) * absQ (z : Rat)) = t5 at *
          generalize TX (absQ (z : Rat)) = t6 at *
          generalize TX ((lcI x y : Int) : Rat) = t7 at *
          generalize TX ((x % z : Int) : Rat) = t8 at *
          generalize TX ((Int.gcd x y : Int) : Rat) = tg at *
          generalize TX (x : Rat) = tx at *
          generalize TX (y : Rat) = ty at *
          generalize TX (z : Rat) = tz at *
          go_wp2_with fail
          refine (gc _ (HE.out.far HB3.out)).mono ?_
          rintro e w4 ⟨rfl, hb4⟩
          have HB4 := Lib.hid (HB3.out.trans (hb4.mono HB3.out.size))
          clear hb4
          go_wp2_with fail
          refine (sg _ (HE.out.far HB4.out)).mono ?_
          rintro e w5 ⟨rfl, hb5⟩
          have HB5 := Lib.hid (HB4.out.trans (hb5.mono HB4.out.size))
          clear hb5
          go_wp2_with fail
          refine (rx _ (HE.out.far HB5.out)).mono ?_
          rintro e w6 ⟨rfl, hb6⟩
          have HB6 := Lib.hid (HB5.out.trans (hb6.mono HB5.out.size))
          clear hb6
          go_wp2_with fail
          refine (ry _ (HE.out.far HB6.out)).mono ?_
          rintro e w7 ⟨rfl, hb7⟩
          have HB7 := Lib.hid (HB6.out.trans (hb7.mono HB6.out.size))
          clear hb7
          go_wp2_with fail
          refine (lc _ (HE.out.far HB7.out)).mono ?_
          rintro e w8 ⟨rfl, hb8⟩
          have HB8 := Lib.hid (HB7.out.trans (hb8.mono HB7.out.size))
          clear hb8
          go_wp2_with fail
          refine (ml _ (HE.out.far HB8.out)).mono ?_
          rintro e w9 ⟨rfl, hb9⟩
          have HB9 := Lib.hid (HB8.out.trans (hb9.mono HB8.out.size))
          clear hb9
          go_wp2_with fail
          refine (mx _ (HE.out.far HB9.out)).mono ?_
          rintro e w10 ⟨rfl, hb10⟩
          have HB10 := Lib.hid (HB9.out.trans (hb10.mono HB9.out.size))
          clear hb10
          go_wp2_with fail
          refine (ab _ (HE.out.far HB10.out)).mono ?_
          rintro e w11 ⟨rfl, hb11⟩
          have HB11 := Lib.hid (HB10.out.trans (hb11.mono HB10.out.size))
          clear hb11
          go_wp2_with fail
          refine (xz _ (HE.out.far HB11.out)).mono ?_
          rintro e w12 ⟨rfl, hb12⟩
          have HB12 := Lib.hid (HB11.out.trans (hb12.mono HB11.out.size))
          clear hb12
          go_wp2_with fail
          refine (mxz _ (HE.out.far HB12.out)).mono ?_
          rintro e w13 ⟨rfl, hb13⟩
          have HB13 := Lib.hid (HB12.out.trans (hb13.mono HB12.out.size))
          clear hb13
          go_wp2_with fail
          refine (myz _ (HE.out.far HB13.out)).mono ?_
          rintro e w14 ⟨rfl, hb14⟩
          have HB14 := Lib.hid (HB13.out.trans (hb14.mono HB13.out.size))
          clear hb14
          go_wp2_with fail
          refine (gz _ (HE.out.far HB14.out)).mono ?_
          rintro e w15 ⟨rfl, hb15⟩
          have HB15 := Lib.hid (HB14.out.trans (hb15.mono HB14.out.size))
          clear hb15
          go_wp2_with fail
          refine (az _ (HE.out.far HB15.out)).mono ?_
          rintro e w16 ⟨rfl, hb16⟩
          have HB16 := Lib.hid (HB15.out.trans (hb16.mono HB15.out.size))
          clear hb16
          go_wp2_with fail
          refine (mg _ (HE.out.far HB16.out)).mono ?_
          rintro e w17 ⟨rfl, hb17⟩
          have HB17 := Lib.hid (HB16.out.trans (hb17.mono HB16.out.size))
          clear hb17
          go_wp2_with fail
          refine (awake_env _ (HE.out.far HB17.out)).mono ?_
          rintro e w18 ⟨rfl, hb18⟩
          have HB18 := Lib.hid (HB17.out.trans (hb18.mono HB17.out.size))
          clear hb18
          go_wp2
          go_ret
          exact ⟨rfl, HB18.out⟩
end
end Go.Proofs.YtgehimcngljmnaaGreatDoor

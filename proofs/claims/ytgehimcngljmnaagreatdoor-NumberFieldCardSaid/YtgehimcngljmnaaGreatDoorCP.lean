/- The statement on the laws of a field: its walk. -/
import Derived.Test.YtgehimcngljmnaaGreatDoorCN
namespace Go.Proofs.YtgehimcngljmnaaGreatDoor
open Go.RowKit Nmx

section
set_option maxRecDepth 100000
set_option maxHeartbeats 8000000
theorem field_any (s0 s1 s2 : ByteArray) (a3 : Option Addr) (len3 cap3 : Nat) (a4 : Option Addr) (len4 cap4 : Nat) (a5 : Option Addr) (len5 cap5 : Nat) (w : World) (h : Env w) (hs0 : s0.size ≤ 9223372036854775807) (hs1 : s1.size ≤ 9223372036854775807) (hs2 : s2.size ≤ 9223372036854775807) (ha3 : ArgI w a3 len3 cap3) (ha4 : ArgI w a4 len4 cap4) (ha5 : ArgI w a5 len5 cap5) : Calls Tryz.prog 6 #[.string s0, .string s1, .string s2, .slice a3 len3 cap3, .slice a4 len4 cap4, .slice a5 len5 cap5] w fun e w' => e = .returned (.bool true) ∧ Below w.heap.size w w' := by
  have HE := Lib.hid h
  have HA3 := Lib.hid ha3
  have HA4 := Lib.hid ha4
  have HA5 := Lib.hid ha5
  clear h ha3 ha4 ha5
  go_enter Tryz.func6, Tryz.ntmps6
  go_wp2_with fail
  refine (pick_any s0 a3 len3 cap3 _ hs0 (HA3.out.below (Below.refl _ _))).mono ?_
  rintro e w1 ⟨x, hx, rfl, hb1⟩
  have HB1 := Lib.hid hb1
  clear hb1
  go_wp2_with fail
  refine (pick_any s1 a4 len4 cap4 _ hs1 (HA4.out.below HB1.out)).mono ?_
  rintro e w2 ⟨y, hy, rfl, hb2⟩
  have HB2 := Lib.hid (HB1.out.trans (hb2.mono HB1.out.size))
  clear hb2
  go_wp2_with fail
  refine (pick_any s2 a5 len5 cap5 _ hs2 (HA5.out.below HB2.out)).mono ?_
  rintro e w3 ⟨z, hz, rfl, hb3⟩
  have HB3 := Lib.hid (HB2.out.trans (hb3.mono HB2.out.size))
  clear hb3
  have dx := hx
  have dy := hy
  have dz := hz
  have hxy := fun W hW => numAddT dx dy (by omega) (by omega) W hW
  have hyx := fun W hW => numAddT dy dx (by omega) (by omega) W hW
  have mxy := fun W hW => numMulT dx dy (by omega) (by omega) W hW
  have myx := fun W hW => numMulT dy dx (by omega) (by omega) W hW
  have hxyz := fun W hW => numAddT (dx.add dy) dz (by omega) (by omega) W hW
  have hyz := fun W hW => numAddT dy dz (by omega) (by omega) W hW
  have hx_yz := fun W hW => numAddT dx (dy.add dz) (by omega) (by omega) W hW
  have mxyz := fun W hW => numMulT (dx.mul dy) dz (by omega) (by omega) W hW
  have myz := fun W hW => numMulT dy dz (by omega) (by omega) W hW
  have mx_yz := fun W hW => numMulT dx (dy.mul dz) (by omega) (by omega) W hW
  have mx_s := fun W hW => numMulT dx (dy.add dz) (by omega) (by omega) W hW
  have mxz := fun W hW => numMulT dx dz (by omega) (by omega) W hW
  have hmm := fun W hW => numAddT (dx.mul dy) (dx.mul dz) (by omega) (by omega) W hW
  have hsub := fun W hW => numSubT (dx.add dy) dy (by omega) (by omega) W hW
  have hx0 := fun W hW => numAddT dx (Nmx.DS.zero 1) (by omega) (by omega) W hW
  have mx1 := fun W hW => numMulT dx (Nmx.DS.one (d := 1) (by omega)) (by omega) (by omega) W hW
  rw [tx_int_zero] at hx0
  rw [tx_int_one] at mx1
  rw [Rat.add_comm y x] at hyx
  rw [Rat.mul_comm y x] at myx
  rw [← Rat.add_assoc] at hx_yz
  rw [← Rat.mul_assoc] at mx_yz
  have e1 : x * y + x * z = x * (y + z) := (Rat.mul_add ..).symm
  rw [e1] at hmm
  have e2 : x + y - y = x := by grind
  rw [e2] at hsub
  rw [Rat.add_zero] at hx0
  rw [Rat.mul_one] at mx1
  have ht := tx_zero_test y
  have hdv := fun (h0 : y.num ≠ 0) W hW => numDivT (dx.mul dy) dy (by omega) (by omega) h0 W hW
  have e3 : y.num ≠ 0 → x * y / y = x := fun h0 => Rat.mul_div_cancel (fun e => h0 (by rw [e]; rfl))
  have hdv2 : y.num ≠ 0 → ∀ W, Env W → Calls Tryz.prog 31 #[.string (TX (x * y)), .string (TX y)] W (GetsT x W) := fun h0 W hW => by
    have := hdv h0 W hW
    rwa [e3 h0] at this
  clear hdv e1 e2 e3 dx dy dz hx hy hz
  unfold GetsT at hxy hyx mxy myx hxyz hyz hx_yz mxyz myz mx_yz mx_s mxz hmm hsub hx0 mx1 hdv2
  generalize TX (x + y + z) = t1 at *
  generalize TX (x * y * z) = t2 at *
  generalize TX (x * (y + z)) = t3 at *
  generalize TX (x + y) = t4 at *
  generalize TX (x * y) = t5 at *
  generalize TX (y + z) = t6 at *
  generalize TX (y * z) = t7 at *
  generalize TX (x * z) = t8 at *
  generalize TX x = tx at *
  generalize TX y = ty at *
  generalize TX z = tz at *
  go_wp2_with fail
  refine (hxy _ (HE.out.far HB3.out)).mono ?_
  rintro e w4 ⟨rfl, hb4⟩
  have HB4 := Lib.hid (HB3.out.trans (hb4.mono HB3.out.size))
  clear hb4
  go_wp2_with fail
  refine (hyx _ (HE.out.far HB4.out)).mono ?_
  rintro e w5 ⟨rfl, hb5⟩
  have HB5 := Lib.hid (HB4.out.trans (hb5.mono HB4.out.size))
  clear hb5
  go_wp2_with fail
  refine (mxy _ (HE.out.far HB5.out)).mono ?_
  rintro e w6 ⟨rfl, hb6⟩
  have HB6 := Lib.hid (HB5.out.trans (hb6.mono HB5.out.size))
  clear hb6
  go_wp2_with fail
  refine (myx _ (HE.out.far HB6.out)).mono ?_
  rintro e w7 ⟨rfl, hb7⟩
  have HB7 := Lib.hid (HB6.out.trans (hb7.mono HB6.out.size))
  clear hb7
  go_wp2_with fail
  refine (hxy _ (HE.out.far HB7.out)).mono ?_
  rintro e w8 ⟨rfl, hb8⟩
  have HB8 := Lib.hid (HB7.out.trans (hb8.mono HB7.out.size))
  clear hb8
  go_wp2_with fail
  refine (hxyz _ (HE.out.far HB8.out)).mono ?_
  rintro e w9 ⟨rfl, hb9⟩
  have HB9 := Lib.hid (HB8.out.trans (hb9.mono HB8.out.size))
  clear hb9
  go_wp2_with fail
  refine (hyz _ (HE.out.far HB9.out)).mono ?_
  rintro e w10 ⟨rfl, hb10⟩
  have HB10 := Lib.hid (HB9.out.trans (hb10.mono HB9.out.size))
  clear hb10
  go_wp2_with fail
  refine (hx_yz _ (HE.out.far HB10.out)).mono ?_
  rintro e w11 ⟨rfl, hb11⟩
  have HB11 := Lib.hid (HB10.out.trans (hb11.mono HB10.out.size))
  clear hb11
  go_wp2_with fail
  refine (mxy _ (HE.out.far HB11.out)).mono ?_
  rintro e w12 ⟨rfl, hb12⟩
  have HB12 := Lib.hid (HB11.out.trans (hb12.mono HB11.out.size))
  clear hb12
  go_wp2_with fail
  refine (mxyz _ (HE.out.far HB12.out)).mono ?_
  rintro e w13 ⟨rfl, hb13⟩
  have HB13 := Lib.hid (HB12.out.trans (hb13.mono HB12.out.size))
  clear hb13
  go_wp2_with fail
  refine (myz _ (HE.out.far HB13.out)).mono ?_
  rintro e w14 ⟨rfl, hb14⟩
  have HB14 := Lib.hid (HB13.out.trans (hb14.mono HB13.out.size))
  clear hb14
  go_wp2_with fail
  refine (mx_yz _ (HE.out.far HB14.out)).mono ?_
  rintro e w15 ⟨rfl, hb15⟩
  have HB15 := Lib.hid (HB14.out.trans (hb15.mono HB14.out.size))
  clear hb15
  go_wp2_with fail
  refine (hyz _ (HE.out.far HB15.out)).mono ?_
  rintro e w16 ⟨rfl, hb16⟩
  have HB16 := Lib.hid (HB15.out.trans (hb16.mono HB15.out.size))
  clear hb16
  go_wp2_with fail
  refine (mx_s _ (HE.out.far HB16.out)).mono ?_
  rintro e w17 ⟨rfl, hb17⟩
  have HB17 := Lib.hid (HB16.out.trans (hb17.mono HB16.out.size))
  clear hb17
  go_wp2_with fail
  refine (mxy _ (HE.out.far HB17.out)).mono ?_
  rintro e w18 ⟨rfl, hb18⟩
  have HB18 := Lib.hid (HB17.out.trans (hb18.mono HB17.out.size))
  clear hb18
  go_wp2_with fail
  refine (mxz _ (HE.out.far HB18.out)).mono ?_
  rintro e w19 ⟨rfl, hb19⟩
  have HB19 := Lib.hid (HB18.out.trans (hb19.mono HB18.out.size))
  clear hb19
  go_wp2_with fail
  refine (hmm _ (HE.out.far HB19.out)).mono ?_
  rintro e w20 ⟨rfl, hb20⟩
  have HB20 := Lib.hid (HB19.out.trans (hb20.mono HB19.out.size))
  clear hb20
  go_wp2_with fail
  refine (hxy _ (HE.out.far HB20.out)).mono ?_
  rintro e w21 ⟨rfl, hb21⟩
  have HB21 := Lib.hid (HB20.out.trans (hb21.mono HB20.out.size))
  clear hb21
  go_wp2_with fail
  refine (hsub _ (HE.out.far HB21.out)).mono ?_
  rintro e w22 ⟨rfl, hb22⟩
  have HB22 := Lib.hid (HB21.out.trans (hb22.mono HB21.out.size))
  clear hb22
  go_wp2_with fail
  refine (hx0 _ (HE.out.far HB22.out)).mono ?_
  rintro e w23 ⟨rfl, hb23⟩
  have HB23 := Lib.hid (HB22.out.trans (hb23.mono HB22.out.size))
  clear hb23
  go_wp2_with fail
  refine (mx1 _ (HE.out.far HB23.out)).mono ?_
  rintro e w24 ⟨rfl, hb24⟩
  have HB24 := Lib.hid (HB23.out.trans (hb24.mono HB23.out.size))
  clear hb24
  by_cases h0 : y.num = 0
  · rw [decide_eq_true h0] at ht
    clear h0 hdv2
    go_wp2_with fail
    refine (awake_env _ (HE.out.far HB24.out)).mono ?_
    rintro e w25 ⟨rfl, hb25⟩
    have HB25 := Lib.hid (HB24.out.trans (hb25.mono HB24.out.size))
    clear hb25
    go_wp2
    go_ret
    exact ⟨rfl, HB25.out⟩
  · rw [decide_eq_false h0] at ht
    have hdv := hdv2 h0
    clear h0 hdv2
    go_wp2_with fail
    refine (mxy _ (HE.out.far HB24.out)).mono ?_
    rintro e w25 ⟨rfl, hb25⟩
    have HB25 := Lib.hid (HB24.out.trans (hb25.mono HB24.out.size))
    clear hb25
    go_wp2_with fail
    refine (hdv _ (HE.out.far HB25.out)).mono ?_
    rintro e w26 ⟨rfl, hb26⟩
    have HB26 := Lib.hid (HB25.out.trans (hb26.mono HB25.out.size))
    clear hb26
    go_wp2_with fail
    refine (awake_env _ (HE.out.far HB26.out)).mono ?_
    rintro e w27 ⟨rfl, hb27⟩
    have HB27 := Lib.hid (HB26.out.trans (hb27.mono HB26.out.size))
    clear hb27
    go_wp2
    go_ret
    exact ⟨rfl, HB27.out⟩
end
end Go.Proofs.YtgehimcngljmnaaGreatDoor

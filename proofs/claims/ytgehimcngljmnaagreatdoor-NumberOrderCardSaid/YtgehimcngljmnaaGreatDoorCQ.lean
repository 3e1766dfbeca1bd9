/- The statement on the order of numbers: its walk. -/
import Derived.Test.YtgehimcngljmnaaGreatDoorCN
namespace Go.Proofs.YtgehimcngljmnaaGreatDoor
open Go.RowKit Nmx

theorem cmpQ_bd (x y : Rat) : -1 ≤ cmpQ x y ∧ cmpQ x y ≤ 1 := by unfold cmpQ; split <;> (try split) <;> omega
theorem sgQ_sgnI (z : Rat) : sgnI z.num = sgQ z := by rw [sgQ_num]; rfl
section
set_option maxRecDepth 100000
set_option maxHeartbeats 8000000
theorem order_any (s0 s1 s2 : ByteArray) (a3 : Option Addr) (len3 cap3 : Nat) (a4 : Option Addr) (len4 cap4 : Nat) (a5 : Option Addr) (len5 cap5 : Nat) (w : World) (h : Env w) (hs0 : s0.size ≤ 9223372036854775807) (hs1 : s1.size ≤ 9223372036854775807) (hs2 : s2.size ≤ 9223372036854775807) (ha3 : ArgI w a3 len3 cap3) (ha4 : ArgI w a4 len4 cap4) (ha5 : ArgI w a5 len5 cap5) : Calls Tryz.prog 7 #[.string s0, .string s1, .string s2, .slice a3 len3 cap3, .slice a4 len4 cap4, .slice a5 len5 cap5] w fun e w' => e = .returned (.bool true) ∧ Below w.heap.size w w' := by
  have HE := Lib.hid h
  have HA3 := Lib.hid ha3
  have HA4 := Lib.hid ha4
  have HA5 := Lib.hid ha5
  clear h ha3 ha4 ha5
  go_enter Tryz.func7, Tryz.ntmps7
  go_wp2_with fail
  refine (pick_any s0 a3 len3 cap3 _ hs0 (HA3.out.below (Below.refl _ _))).mono ?_
  rintro e w1 ⟨x, hx, rfl, hb1⟩
  have HB1 := Lib.hid hb1
  clear hb1
  go_wp2_with fail
  refine (pick_any s1 a4 len4 cap4 _ hs1 (HA4.out.below HB1.out)).mono ?_
  rintro e w2 ⟨y, hy, rfl, hb2⟩
  have HB2 := Lib.hid (HB1.out.trans (hb2.mono HB1.out.size))
  clear hb2
  go_wp2_with fail
  refine (pick_any s2 a5 len5 cap5 _ hs2 (HA5.out.below HB2.out)).mono ?_
  rintro e w3 ⟨z, hz, rfl, hb3⟩
  have HB3 := Lib.hid (HB2.out.trans (hb3.mono HB2.out.size))
  clear hb3
  have dx := hx
  have dy := hy
  have dz := hz
  have cxy := fun W hW => numCmpT dx dy (by omega) (by omega) W hW
  have cyx := fun W hW => numCmpT dy dx (by omega) (by omega) W hW
  have axz := fun W hW => numAddT dx dz (by omega) (by omega) W hW
  have ayz := fun W hW => numAddT dy dz (by omega) (by omega) W hW
  have ca := fun W hW => numCmpT (dx.add dz) (dy.add dz) (by omega) (by omega) W hW
  have mxz := fun W hW => numMulT dx dz (by omega) (by omega) W hW
  have myz := fun W hW => numMulT dy dz (by omega) (by omega) W hW
  have cm := fun W hW => numCmpT (dx.mul dz) (dy.mul dz) (by omega) (by omega) W hW
  have sz := fun W hW => numSignT dz (by omega) W hW
  have cyz := fun W hW => numCmpT dy dz (by omega) (by omega) W hW
  have cxz := fun W hW => numCmpT dx dz (by omega) (by omega) W hW
  have sxy := fun W hW => numSubT dx dy (by omega) (by omega) W hW
  have sg := fun W hW => numSignT (dx.sub dy) (by omega) W hW
  rw [cmpQ_swap y x] at cyx
  rw [cmpQ_add] at ca
  rw [cmpQ_mul] at cm
  rw [sgQ_sgnI] at sz
  rw [sgn_cmpQ] at sg
  have hte := tx_eq x y
  have hz0 : decide (x = y) = (cmpQ x y == 0) := by rw [Bool.eq_iff_iff, decide_eq_true_eq, beq_iff_eq]; exact (cmpQ_zero x y).symm
  rw [hz0] at hte
  obtain ⟨d1, d2⟩ := cmpQ_bd x y
  obtain ⟨s1, s2⟩ : -1 ≤ sgQ z ∧ sgQ z ≤ 1 := cmpQ_bd z 0
  have htr : cmpQ x y ≤ 0 → cmpQ y z ≤ 0 → ¬ 0 < cmpQ x z := fun h1 h2 h3 => by
    have h4 := (cmpQ_le x y).1 h1
    have h5 := (cmpQ_le y z).1 h2
    have h6 := (cmpQ_gt x z).1 h3
    grind
  have HTR := Lib.hid htr
  obtain ⟨d, hd⟩ : ∃ d, cmpQ x y = d := ⟨_, rfl⟩
  obtain ⟨s, hs⟩ : ∃ s, sgQ z = s := ⟨_, rfl⟩
  rw [hd] at cxy cyx ca cm sg hte d1 d2 HTR
  rw [hs] at cm sz s1 s2
  obtain ⟨P, hP⟩ : ∃ P, d * s = P := ⟨_, rfl⟩
  have hP1 : -1 ≤ P ∧ P ≤ 1 := by
    rw [← hP]
    rcases (show d = -1 ∨ d = 0 ∨ d = 1 by omega) with e | e | e <;> rw [e] <;> omega
  obtain ⟨p1, p2⟩ := hP1
  rw [hP] at cm
  have hw : IntKind.i64.wrap (d * s) = P := by rw [hP, IntKind.wrap_i64]; omega
  have hw2 : IntKind.i64.wrap P = P := by rw [IntKind.wrap_i64]; omega
  clear hz0 htr hd hs dx dy dz hx hy hz
  unfold GetsT at axz ayz mxz myz sxy
  generalize cmpQ y z = c2 at *
  generalize cmpQ x z = c3 at *
  generalize TX (x + z) = t1 at *
  generalize TX (y + z) = t2 at *
  generalize TX (x * z) = t3 at *
  generalize TX (y * z) = t4 at *
  generalize TX (x - y) = t5 at *
  generalize TX x = tx at *
  generalize TX y = ty at *
  generalize TX z = tz at *
  go_wp2_with fail
  refine (cxy _ (HE.out.far HB3.out)).mono ?_
  rintro e w4 ⟨rfl, hb4⟩
  have HB4 := Lib.hid (HB3.out.trans (hb4.mono HB3.out.size))
  clear hb4
  go_wp2_with fail
  refine (cyx _ (HE.out.far HB4.out)).mono ?_
  rintro e w5 ⟨rfl, hb5⟩
  have HB5 := Lib.hid (HB4.out.trans (hb5.mono HB4.out.size))
  clear hb5
  go_wp2_with fail
  refine (axz _ (HE.out.far HB5.out)).mono ?_
  rintro e w6 ⟨rfl, hb6⟩
  have HB6 := Lib.hid (HB5.out.trans (hb6.mono HB5.out.size))
  clear hb6
  go_wp2_with fail
  refine (ayz _ (HE.out.far HB6.out)).mono ?_
  rintro e w7 ⟨rfl, hb7⟩
  have HB7 := Lib.hid (HB6.out.trans (hb7.mono HB6.out.size))
  clear hb7
  go_wp2_with fail
  refine (ca _ (HE.out.far HB7.out)).mono ?_
  rintro e w8 ⟨rfl, hb8⟩
  have HB8 := Lib.hid (HB7.out.trans (hb8.mono HB7.out.size))
  clear hb8
  go_wp2_with fail
  refine (mxz _ (HE.out.far HB8.out)).mono ?_
  rintro e w9 ⟨rfl, hb9⟩
  have HB9 := Lib.hid (HB8.out.trans (hb9.mono HB8.out.size))
  clear hb9
  go_wp2_with fail
  refine (myz _ (HE.out.far HB9.out)).mono ?_
  rintro e w10 ⟨rfl, hb10⟩
  have HB10 := Lib.hid (HB9.out.trans (hb10.mono HB9.out.size))
  clear hb10
  go_wp2_with fail
  refine (cm _ (HE.out.far HB10.out)).mono ?_
  rintro e w11 ⟨rfl, hb11⟩
  have HB11 := Lib.hid (HB10.out.trans (hb11.mono HB10.out.size))
  clear hb11
  go_wp2_with fail
  refine (sz _ (HE.out.far HB11.out)).mono ?_
  rintro e w12 ⟨rfl, hb12⟩
  have HB12 := Lib.hid (HB11.out.trans (hb12.mono HB11.out.size))
  clear hb12
  by_cases h0 : d ≤ 0
  · by_cases h2 : c2 ≤ 0
    · have h3 := HTR.out h0 h2
      go_wp2_with fail
      refine (cyz _ (HE.out.far HB12.out)).mono ?_
      rintro e w13 ⟨rfl, hb13⟩
      have HB13 := Lib.hid (HB12.out.trans (hb13.mono HB12.out.size))
      clear hb13
      go_wp2_with fail
      refine (cxz _ (HE.out.far HB13.out)).mono ?_
      rintro e w14 ⟨rfl, hb14⟩
      have HB14 := Lib.hid (HB13.out.trans (hb14.mono HB13.out.size))
      clear hb14
      go_wp2_with fail
      refine (sxy _ (HE.out.far HB14.out)).mono ?_
      rintro e w15 ⟨rfl, hb15⟩
      have HB15 := Lib.hid (HB14.out.trans (hb15.mono HB14.out.size))
      clear hb15
      go_wp2_with fail
      refine (sg _ (HE.out.far HB15.out)).mono ?_
      rintro e w16 ⟨rfl, hb16⟩
      have HB16 := Lib.hid (HB15.out.trans (hb16.mono HB15.out.size))
      clear hb16
      go_wp2_with fail
      refine (awake_env _ (HE.out.far HB16.out)).mono ?_
      rintro e w17 ⟨rfl, hb17⟩
      have HB17 := Lib.hid (HB16.out.trans (hb17.mono HB16.out.size))
      clear hb17
      go_wp2
      go_ret
      exact ⟨rfl, HB17.out⟩
    · skip
      go_wp2_with fail
      refine (cyz _ (HE.out.far HB12.out)).mono ?_
      rintro e w13 ⟨rfl, hb13⟩
      have HB13 := Lib.hid (HB12.out.trans (hb13.mono HB12.out.size))
      clear hb13
      go_wp2_with fail
      refine (sxy _ (HE.out.far HB13.out)).mono ?_
      rintro e w14 ⟨rfl, hb14⟩
      have HB14 := Lib.hid (HB13.out.trans (hb14.mono HB13.out.size))
      clear hb14
      go_wp2_with fail
      refine (sg _ (HE.out.far HB14.out)).mono ?_
      rintro e w15 ⟨rfl, hb15⟩
      have HB15 := Lib.hid (HB14.out.trans (hb15.mono HB14.out.size))
      clear hb15
      go_wp2_with fail
      refine (awake_env _ (HE.out.far HB15.out)).mono ?_
      rintro e w16 ⟨rfl, hb16⟩
      have HB16 := Lib.hid (HB15.out.trans (hb16.mono HB15.out.size))
      clear hb16
      go_wp2
      go_ret
      exact ⟨rfl, HB16.out⟩
  · skip
    go_wp2_with fail
    refine (sxy _ (HE.out.far HB12.out)).mono ?_
    rintro e w13 ⟨rfl, hb13⟩
    have HB13 := Lib.hid (HB12.out.trans (hb13.mono HB12.out.size))
    clear hb13
    go_wp2_with fail
    refine (sg _ (HE.out.far HB13.out)).mono ?_
    rintro e w14 ⟨rfl, hb14⟩
    have HB14 := Lib.hid (HB13.out.trans (hb14.mono HB13.out.size))
    clear hb14
    go_wp2_with fail
    refine (awake_env _ (HE.out.far HB14.out)).mono ?_
    rintro e w15 ⟨rfl, hb15⟩
    have HB15 := Lib.hid (HB14.out.trans (hb15.mono HB14.out.size))
    clear hb15
    go_wp2
    go_ret
    exact ⟨rfl, HB15.out⟩
end
end Go.Proofs.YtgehimcngljmnaaGreatDoor

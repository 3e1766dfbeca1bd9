/- The statement on numerators and denominators: its walk. -/
import Derived.Test.YtgehimcngljmnaaGreatDoorCN
namespace Go.Proofs.YtgehimcngljmnaaGreatDoor
open Go.RowKit Nmx

section
set_option maxRecDepth 100000
set_option maxHeartbeats 8000000
theorem fraction_any (s0 : ByteArray) (a1 : Option Addr) (len1 cap1 : Nat) (w : World) (h : Env w) (hs0 : s0.size ≤ 9223372036854775807) (ha1 : ArgI w a1 len1 cap1) : Calls Tryz.prog 11 #[.string s0, .slice a1 len1 cap1] w fun e w' => e = .returned (.bool true) ∧ Below w.heap.size w w' := by
  have HE := Lib.hid h
  have HA1 := Lib.hid ha1
  clear h ha1
  go_enter Tryz.func11, Tryz.ntmps11
  go_wp2_with fail
  refine (pick_any s0 a1 len1 cap1 _ hs0 (HA1.out.below (Below.refl _ _))).mono ?_
  rintro e w1 ⟨q, hq, rfl, hb1⟩
  have HB1 := Lib.hid hb1
  clear hb1
  have dq := hq
  have hn : q.num.natAbs < 10 ^ 50 := dq.1
  have hd : ((q.den : Int)).natAbs < 10 ^ 51 := by
    rw [Int.natAbs_natCast]
    have := dq.2
    have h4 : 10 ^ 51 = 10 * 10 ^ 50 := Nat.pow_succ'
    have := ten_pos 50
    omega
  have nu := fun W hW => numNumT dq (by omega) W hW
  have de := fun W hW => numDenT dq (by omega) W hW
  have i1 := fun W hW => numIsIntT dq.num (by omega) W hW
  have i2 := fun W hW => numIsIntT dq.den (by omega) W hW
  have sd := fun W hW => numSignT dq.den (by omega) W hW
  have gc := fun W hW => numGcdT hn hd (by omega) (by omega) W hW
  have dv := fun W hW => numDivT dq.num dq.den (by omega) (by omega) (by rw [Rat.num_intCast]; have := q.den_nz; omega) W hW
  have iq := fun W hW => numIsIntT dq (by omega) W hW
  have sn := fun W hW => numSignT dq.num (by omega) W hW
  have sq := fun W hW => numSignT dq (by omega) W hW
  rw [decide_eq_true (Rat.den_intCast _)] at i1 i2
  rw [Rat.num_intCast] at sd sn
  have eg : Int.gcd q.num q.den = 1 := q.reduced
  rw [eg, show (((1 : Nat) : Int) : Rat) = 1 from rfl, show GetsT 1 = GetsT 1 from rfl] at gc
  unfold GetsT at nu de gc dv
  rw [tx_int_one] at gc
  have e1 : (q.num : Rat) / (((q.den : Int)) : Rat) = q := by
    rw [div_divInt]
    simp only [Rat.num_intCast, Rat.den_intCast]
    conv => rhs; rw [← Rat.num_divInt_den q]
    congr 1 <;> simp
  rw [e1] at dv
  have s1 : 0 < sgnI (q.den : Int) := by have := q.den_nz; unfold sgnI; rw [if_neg (by omega), if_pos (by omega)]; omega
  have t1 : ((TX (((q.den : Int)) : Rat)).toList == [49]) = decide (q.den = 1) := by
    have h1 := tx_eq (((q.den : Int)) : Rat) 1
    rw [tx_int_one, ByteArray.toList_eq (bs := ⟨#[49]⟩)] at h1
    rw [show ((TX (((q.den : Int)) : Rat)).toList == [49]) = decide ((((q.den : Int)) : Rat) = 1) from h1, decide_eq_decide, show (1 : Rat) = ((1 : Int) : Rat) from rfl, Rat.intCast_inj]
    omega
  clear e1 eg hn hd hq dq
  generalize decide (q.den = 1) = bb at *
  generalize sgnI (q.den : Int) = z1 at *
  generalize sgnI q.num = z2 at *
  generalize TX (((q.den : Int)) : Rat) = td at *
  generalize TX (q.num : Rat) = tn at *
  generalize TX q = tq at *
  go_wp2_with fail
  refine (nu _ (HE.out.far HB1.out)).mono ?_
  rintro e w2 ⟨rfl, hb2⟩
  have HB2 := Lib.hid (HB1.out.trans (hb2.mono HB1.out.size))
  clear hb2
  go_wp2_with fail
  refine (de _ (HE.out.far HB2.out)).mono ?_
  rintro e w3 ⟨rfl, hb3⟩
  have HB3 := Lib.hid (HB2.out.trans (hb3.mono HB2.out.size))
  clear hb3
  go_wp2_with fail
  refine (i1 _ (HE.out.far HB3.out)).mono ?_
  rintro e w4 ⟨rfl, hb4⟩
  have HB4 := Lib.hid (HB3.out.trans (hb4.mono HB3.out.size))
  clear hb4
  go_wp2_with fail
  refine (i2 _ (HE.out.far HB4.out)).mono ?_
  rintro e w5 ⟨rfl, hb5⟩
  have HB5 := Lib.hid (HB4.out.trans (hb5.mono HB4.out.size))
  clear hb5
  go_wp2_with fail
  refine (sd _ (HE.out.far HB5.out)).mono ?_
  rintro e w6 ⟨rfl, hb6⟩
  have HB6 := Lib.hid (HB5.out.trans (hb6.mono HB5.out.size))
  clear hb6
  go_wp2_with fail
  refine (gc _ (HE.out.far HB6.out)).mono ?_
  rintro e w7 ⟨rfl, hb7⟩
  have HB7 := Lib.hid (HB6.out.trans (hb7.mono HB6.out.size))
  clear hb7
  go_wp2_with fail
  refine (dv _ (HE.out.far HB7.out)).mono ?_
  rintro e w8 ⟨rfl, hb8⟩
  have HB8 := Lib.hid (HB7.out.trans (hb8.mono HB7.out.size))
  clear hb8
  go_wp2_with fail
  refine (iq _ (HE.out.far HB8.out)).mono ?_
  rintro e w9 ⟨rfl, hb9⟩
  have HB9 := Lib.hid (HB8.out.trans (hb9.mono HB8.out.size))
  clear hb9
  go_wp2_with fail
  refine (sn _ (HE.out.far HB9.out)).mono ?_
  rintro e w10 ⟨rfl, hb10⟩
  have HB10 := Lib.hid (HB9.out.trans (hb10.mono HB9.out.size))
  clear hb10
  go_wp2_with fail
  refine (sq _ (HE.out.far HB10.out)).mono ?_
  rintro e w11 ⟨rfl, hb11⟩
  have HB11 := Lib.hid (HB10.out.trans (hb11.mono HB10.out.size))
  clear hb11
  go_wp2_with fail
  refine (awake_env _ (HE.out.far HB11.out)).mono ?_
  rintro e w12 ⟨rfl, hb12⟩
  have HB12 := Lib.hid (HB11.out.trans (hb12.mono HB11.out.size))
  clear hb12
  go_wp2
  go_ret
  exact ⟨rfl, HB12.out⟩
end
end Go.Proofs.YtgehimcngljmnaaGreatDoor

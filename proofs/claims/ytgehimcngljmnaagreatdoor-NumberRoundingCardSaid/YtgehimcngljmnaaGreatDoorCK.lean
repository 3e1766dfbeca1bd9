/- The statement on rounding: its walk. -/
import Derived.Test.YtgehimcngljmnaaGreatDoorCN
namespace Go.Proofs.YtgehimcngljmnaaGreatDoor
open Go.RowKit Nmx

section
set_option maxRecDepth 100000
set_option maxHeartbeats 4000000
theorem rounding_any (a : ByteArray) (ao : Option Addr) (len cap : Nat) (w : World) (h : Env w) (hs : a.size ≤ 9223372036854775807) (ha : ArgI w ao len cap) : Calls Tryz.prog 8 #[.string a, .slice ao len cap] w fun e w' => e = .returned (.bool true) ∧ Below w.heap.size w w' := by
  have HE := Lib.hid h
  have hp := pick_any a ao len cap w hs ha
  clear h ha hs
  go_enter Tryz.func8, Tryz.ntmps8
  go_wp2_with fail
  refine hp.mono ?_
  rintro e w1 ⟨q, hq, rfl, hb1⟩
  have HB1 := Lib.hid hb1
  clear hb1 hp
  have dq := hq
  have h2 := fun W hW => numFloorT dq (by omega) W hW
  have h3 := fun W hW => numCeilT dq (by omega) W hW
  have h4 := fun W hW => numIsIntT dq.fl (by omega) W hW
  have h5 := fun W hW => numIsIntT dq.ce (by omega) W hW
  have h6 := fun W hW => numCmpT dq.fl dq (by omega) (by omega) W hW
  have h7 := fun W hW => numCmpT dq dq.ce (by omega) (by omega) W hW
  have h8 := fun W hW => numSubT dq.ce dq.fl (by omega) (by omega) W hW
  have h9 := fun W hW => numCmpT (dq.ce.sub dq.fl) (Nmx.DS.one (d := 1) (by omega)) (by omega) (by omega) W hW
  have h10 := fun W hW => numNegT dq (by omega) W hW
  have h11 := fun W hW => numFloorT dq.neg (by omega) W hW
  have h12 := fun W hW => numNegT dq.neg.fl (by omega) W hW
  have h13 := fun W hW => numIsIntT dq (by omega) W hW
  rw [decide_eq_true (Rat.den_intCast _)] at h4 h5
  rw [tx_int_one] at h9
  have e12 : -((flI (-q) : Int) : Rat) = ((ceI q : Int) : Rat) := by unfold ceI; rw [Rat.intCast_neg]
  rw [e12] at h12
  have c6 : ¬ 0 < cmpQ ((flI q : Int) : Rat) q := by have := (cmpQ_le _ _).2 (flI_le q); omega
  have c7 : ¬ 0 < cmpQ q ((ceI q : Int) : Rat) := by have := (cmpQ_le _ _).2 (ce_ge q); omega
  have c9 : ¬ 0 < cmpQ (((ceI q : Int) : Rat) - ((flI q : Int) : Rat)) 1 := by have := (cmpQ_le _ _).2 (ce_fl q); omega
  have t1 := tx_eq ((flI q : Int) : Rat) ((ceI q : Int) : Rat)
  have t2 := tx_eq ((flI q : Int) : Rat) q
  have e1 : decide (((flI q : Int) : Rat) = ((ceI q : Int) : Rat)) = decide (q.den = 1) := by
    rw [decide_eq_decide, Rat.intCast_inj]; exact ce_eq_fl q
  have e2 : decide (((flI q : Int) : Rat) = q) = decide (q.den = 1) := by rw [decide_eq_decide]; exact flI_eq_iff q
  rw [e1] at t1
  rw [e2] at t2
  unfold GetsT at h2 h3 h8 h10 h11 h12
  clear e1 e2 e12 dq hq
  generalize cmpQ ((flI q : Int) : Rat) q = z6 at *
  generalize cmpQ q ((ceI q : Int) : Rat) = z7 at *
  generalize cmpQ (((ceI q : Int) : Rat) - ((flI q : Int) : Rat)) 1 = z9 at *
  generalize decide (q.den = 1) = bb at *
  generalize TX (((ceI q : Int) : Rat) - ((flI q : Int) : Rat)) = td at *
  generalize TX ((flI (-q) : Int) : Rat) = tg at *
  generalize TX ((flI q : Int) : Rat) = tf at *
  generalize TX ((ceI q : Int) : Rat) = tc at *
  generalize TX (-q) = tn at *
  generalize TX q = tq at *
  go_wp2_with fail
  refine (h2 _ (HE.out.far HB1.out)).mono ?_
  rintro e w2 ⟨rfl, hb2⟩
  have HB2 := Lib.hid (HB1.out.trans (hb2.mono HB1.out.size))
  clear hb2
  go_wp2_with fail
  refine (h3 _ (HE.out.far HB2.out)).mono ?_
  rintro e w3 ⟨rfl, hb3⟩
  have HB3 := Lib.hid (HB2.out.trans (hb3.mono HB2.out.size))
  clear hb3
  go_wp2_with fail
  refine (h4 _ (HE.out.far HB3.out)).mono ?_
  rintro e w4 ⟨rfl, hb4⟩
  have HB4 := Lib.hid (HB3.out.trans (hb4.mono HB3.out.size))
  clear hb4
  go_wp2_with fail
  refine (h5 _ (HE.out.far HB4.out)).mono ?_
  rintro e w5 ⟨rfl, hb5⟩
  have HB5 := Lib.hid (HB4.out.trans (hb5.mono HB4.out.size))
  clear hb5
  go_wp2_with fail
  refine (h6 _ (HE.out.far HB5.out)).mono ?_
  rintro e w6 ⟨rfl, hb6⟩
  have HB6 := Lib.hid (HB5.out.trans (hb6.mono HB5.out.size))
  clear hb6
  go_wp2_with fail
  refine (h7 _ (HE.out.far HB6.out)).mono ?_
  rintro e w7 ⟨rfl, hb7⟩
  have HB7 := Lib.hid (HB6.out.trans (hb7.mono HB6.out.size))
  clear hb7
  go_wp2_with fail
  refine (h8 _ (HE.out.far HB7.out)).mono ?_
  rintro e w8 ⟨rfl, hb8⟩
  have HB8 := Lib.hid (HB7.out.trans (hb8.mono HB7.out.size))
  clear hb8
  go_wp2_with fail
  refine (h9 _ (HE.out.far HB8.out)).mono ?_
  rintro e w9 ⟨rfl, hb9⟩
  have HB9 := Lib.hid (HB8.out.trans (hb9.mono HB8.out.size))
  clear hb9
  go_wp2_with fail
  refine (h10 _ (HE.out.far HB9.out)).mono ?_
  rintro e w10 ⟨rfl, hb10⟩
  have HB10 := Lib.hid (HB9.out.trans (hb10.mono HB9.out.size))
  clear hb10
  go_wp2_with fail
  refine (h11 _ (HE.out.far HB10.out)).mono ?_
  rintro e w11 ⟨rfl, hb11⟩
  have HB11 := Lib.hid (HB10.out.trans (hb11.mono HB10.out.size))
  clear hb11
  go_wp2_with fail
  refine (h12 _ (HE.out.far HB11.out)).mono ?_
  rintro e w12 ⟨rfl, hb12⟩
  have HB12 := Lib.hid (HB11.out.trans (hb12.mono HB11.out.size))
  clear hb12
  go_wp2_with fail
  refine (h13 _ (HE.out.far HB12.out)).mono ?_
  rintro e w13 ⟨rfl, hb13⟩
  have HB13 := Lib.hid (HB12.out.trans (hb13.mono HB12.out.size))
  clear hb13
  go_wp2_with fail
  refine (h13 _ (HE.out.far HB13.out)).mono ?_
  rintro e w14 ⟨rfl, hb14⟩
  have HB14 := Lib.hid (HB13.out.trans (hb14.mono HB13.out.size))
  clear hb14
  go_wp2_with fail
  refine (awake_env _ (HE.out.far HB14.out)).mono ?_
  rintro e w15 ⟨rfl, hb15⟩
  have HB15 := Lib.hid (HB14.out.trans (hb15.mono HB14.out.size))
  clear hb15
  go_wp2
  go_ret
  exact ⟨rfl, HB15.out⟩
end
end Go.Proofs.YtgehimcngljmnaaGreatDoor

/- The sanity check of layer number. -/
import Derived.Test.YtgehimcngljmnaaGreatDoorAS
namespace Go.Proofs.YtgehimcngljmnaaGreatDoor
open Go.RowKit Nmx

theorem gcdAt_small {l : List UInt8} {n d : Int} (h1 : canonF (upto l) = some n) (h2 : canonF (behind l) = some d) (hn : Small n) (hd : Small d) : GcdAt l := fun n' d' e1 e2 _ => by
  rw [h1] at e1
  rw [h2] at e2
  cases e1
  cases e2
  exact gcdOk_small hn hd
theorem qrAt_small {za zb : Int} (ha : Small za) (hb : Small zb) (h0 : zb ≠ 0) : QRAt za zb := fun x y W hx hy => by
  have := iv_small hx ha
  subst this
  have := iv_small hy hb
  subst this
  exact quoRem_ss W ha hb h0
section
set_option maxRecDepth 100000
set_option maxHeartbeats 4000000
theorem ex_add (w : World) (h : Env w) : Calls Tryz.prog 28 #[.string ⟨#[49, 47, 50]⟩, .string ⟨#[49, 47, 51]⟩] w fun e w' => e = .returned (.string ⟨#[53, 47, 54]⟩) ∧ Below w.heap.size w w' := by
  have hp : ratF (⟨#[49, 47, 50]⟩ : ByteArray).data.toList = some (Rat.divInt 1 2) := by decide +kernel
  have hq : ratF (⟨#[49, 47, 51]⟩ : ByteArray).data.toList = some (Rat.divInt 1 3) := by decide +kernel
  have hg : GcdAt (⟨#[49, 47, 50]⟩ : ByteArray).data.toList := gcdAt_small (n := 1) (d := 2) (by decide +kernel) (by decide +kernel) (by unfold Small; omega) (by unfold Small; omega)
  have hg' : GcdAt (⟨#[49, 47, 51]⟩ : ByteArray).data.toList := gcdAt_small (n := 1) (d := 3) (by decide +kernel) (by decide +kernel) (by unfold Small; omega) (by unfold Small; omega)
  have n1 : (Rat.divInt 1 2).num = 1 := by decide +kernel
  have d1 : (Rat.divInt 1 2).den = 2 := by decide +kernel
  have n2 : (Rat.divInt 1 3).num = 1 := by decide +kernel
  have d2 : (Rat.divInt 1 3).den = 3 := by decide +kernel
  have hr : Rat.divInt 1 2 + Rat.divInt 1 3 = Rat.divInt 5 6 := by decide +kernel
  have htx : textQ (Rat.divInt 5 6) = [53, 47, 54] := ratF_iff.1 (by decide +kernel)
  have hb : 3 < BB ^ 1 := by rw [Nat.pow_one, BB_eq]; omega
  have hqo : QuotOk ((Rat.divInt 1 2).num * (Rat.divInt 1 3).den + (Rat.divInt 1 3).num * (Rat.divInt 1 2).den) ((Rat.divInt 1 2).den * (Rat.divInt 1 3).den) := by
    rw [n1, n2, d1, d2]
    exact quotOk_small (by unfold Small; omega) (by unfold Small; omega) (by omega)
  have hsz : (decI (Rat.divInt 5 6).num).length + (decI (Rat.divInt 5 6).den).length ≤ 1000000000 := by
    have h1 : (Rat.divInt 5 6).num = 5 := by decide +kernel
    have h2 : (Rat.divInt 5 6).den = 6 := by decide +kernel
    rw [h1, h2]
    have := decN_len_le (n := 5) (k := 2) (by omega) (by omega)
    have := decN_len_le (n := 6) (k := 2) (by omega) (by omega)
    have e1 : decI 5 = decN 5 := decI_nat 5
    have e2 : decI ((6 : Nat) : Int) = decN 6 := decI_nat 6
    rw [e1, e2]; omega
  have hres := binary_add ⟨#[49, 47, 50]⟩ ⟨#[49, 47, 51]⟩ _ _ (Rat.divInt 1 2 + Rat.divInt 1 3) w (by decide +kernel) (by decide +kernel) h hp hq hg hg'
    (fun x y W hx hy => ratAdd_any (k := 1) (l := 1) x y _ _ W hx hy ⟨by rw [n1]; exact Nat.lt_trans (by decide) hb, by rw [d1]; omega⟩ ⟨by rw [n2]; exact Nat.lt_trans (by decide) hb, by rw [d2]; omega⟩ (by omega) hqo) (by rw [hr]; exact hsz)
  rw [hr, htx] at hres
  exact hres
theorem ex_quo (w : World) (h : Env w) : Calls Tryz.prog 36 #[.string ⟨#[45, 55]⟩, .string ⟨#[50]⟩] w fun e w' => e = .returned (.string ⟨#[45, 52]⟩) ∧ Below w.heap.size w w' := by
  have hp : ratF (⟨#[45, 55]⟩ : ByteArray).data.toList = some (((-7 : Int)) : Rat) := by decide +kernel
  have hq : ratF (⟨#[50]⟩ : ByteArray).data.toList = some (((2 : Int)) : Rat) := by decide +kernel
  have hres := numQuo_int ⟨#[45, 55]⟩ ⟨#[50]⟩ (-7) 2 w (by decide +kernel) (by decide +kernel) h hp hq (gcdAt_int (by decide +kernel)) (gcdAt_int (by decide +kernel)) (by omega) (qrAt_small (by unfold Small; omega) (by unfold Small; omega) (by omega))
  have e : decI ((-7 : Int) / 2) = [45, 52] := canonF_iff.1 (by decide +kernel)
  rw [e] at hres
  exact hres
theorem ex_rem (w : World) (h : Env w) : Calls Tryz.prog 37 #[.string ⟨#[45, 55]⟩, .string ⟨#[50]⟩] w fun e w' => e = .returned (.string ⟨#[49]⟩) ∧ Below w.heap.size w w' := by
  have hp : ratF (⟨#[45, 55]⟩ : ByteArray).data.toList = some (((-7 : Int)) : Rat) := by decide +kernel
  have hq : ratF (⟨#[50]⟩ : ByteArray).data.toList = some (((2 : Int)) : Rat) := by decide +kernel
  have hres := numRem_int ⟨#[45, 55]⟩ ⟨#[50]⟩ (-7) 2 w (by decide +kernel) (by decide +kernel) h hp hq (gcdAt_int (by decide +kernel)) (gcdAt_int (by decide +kernel)) (by omega) (qrAt_small (by unfold Small; omega) (by unfold Small; omega) (by omega))
  have e : decI ((-7 : Int) % 2) = [49] := canonF_iff.1 (by decide +kernel)
  rw [e] at hres
  exact hres
theorem ex_valid0 (w : World) (h : Env w) : Calls Tryz.prog 49 #[.string ⟨#[50, 47, 52]⟩] w fun e w' => e = .returned (.bool false) ∧ Below w.heap.size w w' := by
  have hp : (ratF (⟨#[50, 47, 52]⟩ : ByteArray).data.toList).isSome = false := by decide +kernel
  have hres := numValid_any ⟨#[50, 47, 52]⟩ w (by decide +kernel) h (gcdAt_small (n := 2) (d := 4) (by decide +kernel) (by decide +kernel) (by unfold Small; omega) (by unfold Small; omega))
  rw [hp] at hres
  exact hres
theorem ex_valid1 (w : World) (h : Env w) : Calls Tryz.prog 49 #[.string ⟨#[45, 51, 47, 52]⟩] w fun e w' => e = .returned (.bool true) ∧ Below w.heap.size w w' := by
  have hp : (ratF (⟨#[45, 51, 47, 52]⟩ : ByteArray).data.toList).isSome = true := by decide +kernel
  have hres := numValid_any ⟨#[45, 51, 47, 52]⟩ w (by decide +kernel) h (gcdAt_small (n := -3) (d := 4) (by decide +kernel) (by decide +kernel) (by unfold Small; omega) (by unfold Small; omega))
  rw [hp] at hres
  exact hres
theorem awake_ok (w : World) (h : Env w) : Calls Tryz.prog 14 #[] w fun e w' => e = .returned (.bool true) ∧ Below w.heap.size w w' := by
  have HE := Lib.hid h
  have h1 := numParse_ex w h
  clear h
  go_enter Tryz.func14, Tryz.ntmps14
  go_wp2_with fail
  refine h1.mono ?_
  rintro e w1 ⟨rfl, hb1⟩
  have h2 := ex_add w1 (HE.out.far hb1)
  have HB1 := Lib.hid hb1
  clear hb1 h1
  go_wp2_with fail
  refine h2.mono ?_
  rintro e w2 ⟨rfl, hb2⟩
  have HB2 := Lib.hid (HB1.out.trans (hb2.mono HB1.out.size))
  have h3 := ex_quo w2 (HE.out.far HB2.out)
  clear hb2 h2
  go_wp2_with fail
  refine h3.mono ?_
  rintro e w3 ⟨rfl, hb3⟩
  have HB3 := Lib.hid (HB2.out.trans (hb3.mono HB2.out.size))
  have h4 := ex_rem w3 (HE.out.far HB3.out)
  clear hb3 h3
  go_wp2_with fail
  refine h4.mono ?_
  rintro e w4 ⟨rfl, hb4⟩
  have HB4 := Lib.hid (HB3.out.trans (hb4.mono HB3.out.size))
  have h5 := ex_valid0 w4 (HE.out.far HB4.out)
  clear hb4 h4
  go_wp2_with fail
  refine h5.mono ?_
  rintro e w5 ⟨rfl, hb5⟩
  have HB5 := Lib.hid (HB4.out.trans (hb5.mono HB4.out.size))
  have h6 := ex_valid1 w5 (HE.out.far HB5.out)
  clear hb5 h5
  go_wp2_with fail
  refine h6.mono ?_
  rintro e w6 ⟨rfl, hb6⟩
  have HB6 := Lib.hid (HB5.out.trans (hb6.mono HB5.out.size))
  clear hb6 h6
  go_wp2
  go_ret
  exact ⟨rfl, HB6.out⟩
end
end Go.Proofs.YtgehimcngljmnaaGreatDoor

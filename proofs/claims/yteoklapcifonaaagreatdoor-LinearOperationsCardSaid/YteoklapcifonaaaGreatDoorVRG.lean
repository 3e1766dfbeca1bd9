/- The reference's functions at texts of numbers; Floor, Sub. -/
import Derived.Test.YteoklapcifonaaaGreatDoorVRF
namespace Go.Proofs.YteoklapcifonaaaGreatDoor
open Go.RowKit Nmx
open Rf
/-- the text of a number -/
def TX (q : Rat) : ByteArray := ⟨(textQ q).toArray⟩
theorem tx_list (q : Rat) : (TX q).data.toList = textQ q := rfl
theorem tx_size (q : Rat) : (TX q).size = (textQ q).length := sz_txt _
theorem tx_of {s : ByteArray} {q : Rat} (h : ratF s.data.toList = some q) : s = TX q := ba_eq s _ (ratF_some h).symm
theorem tx_ratF (q : Rat) : ratF (TX q).data.toList = some q := ratF_text q
theorem DS.sz {d : Nat} {q : Rat} (h : DS d q) : (TX q).size ≤ 2 * d + 4 := by rw [tx_size]; exact Nmx.DS.len h
/-- text q comes back, and only blocks of the call's own have been made -/
def GetsT (q : Rat) (W : World) (e : Ending) (w' : World) : Prop := e = .returned (.string (TX q)) ∧ Below W.heap.size W w'
theorem tx_eq (p q : Rat) : ((TX p).toList == (TX q).toList) = decide (p = q) := by
 rw [Bool.eq_iff_iff, beq_iff_eq, decide_eq_true_eq, ByteArray.toList_eq, ByteArray.toList_eq, tx_list, tx_list];exact ⟨textQ_inj, fun h => by rw [h]⟩
theorem tx_int_zero : TX 0 = ⟨#[48]⟩ := by
 have : textQ (0 : Rat) = [48] := by rw [show (0 : Rat) = ((0 : Int) : Rat) from rfl, textQ_int, decI_zero]
 unfold TX; rw [this]
theorem num_zero {q : Rat} : q.num = 0 ↔ q = 0 := Rat.num_eq_zero
theorem PS.fl {neg : Bool} {z : Int} {n : Nat} (h : sgn neg n = z) (h0 : neg = true → n ≠ 0) : PS (z : Rat) neg ⟨(decN n).toArray⟩ ⟨#[49]⟩ := by
 subst h;refine ⟨?_, ?_, ?_⟩
 · rw [Rat.num_intCast];cases neg
   · simp [sgn]
   · have := h0 rfl
     simp [sgn]; omega
 · rw [Rat.num_intCast, sgn_natAbs]
 · rw [Rat.den_intCast, decN_one]
section
theorem refValidT {d : Nat} {p : Rat} (hp : DS d p) (hd : d ≤ 40000) (W : World) : Calls Tryz.prog 72 #[.string (TX p)] W fun e w' => e = .returned (.bool true) ∧ Below W.heap.size W w' := by
 have h := refValid_any (TX p) W (by have := DS.sz hp; omega);rw [tx_ratF] at h; exact h
theorem refAddT {d e : Nat} {p q : Rat} (hp : DS d p) (hq : DS e q) (hd : d ≤ 9000) (he : e ≤ 9000) (W : World) : Calls Tryz.prog 85 #[.string (TX p), .string (TX q)] W (GetsT (p + q) W) := by
 have h := refAdd_any (TX p) (TX q) W (by have := DS.sz hp; omega) (by have := DS.sz hq; omega);rw [tx_list, tx_list, on2_text] at h; exact h
theorem refMulT {d e : Nat} {p q : Rat} (hp : DS d p) (hq : DS e q) (hd : d ≤ 9000) (he : e ≤ 9000) (W : World) : Calls Tryz.prog 81 #[.string (TX p), .string (TX q)] W (GetsT (p * q) W) := by
 have h := refMul_any (TX p) (TX q) W (by have := DS.sz hp; omega) (by have := DS.sz hq; omega);rw [tx_list, tx_list, on2_text] at h; exact h
theorem refDivT {d e : Nat} {p q : Rat} (hp : DS d p) (hq : DS e q) (hd : d ≤ 9000) (he : e ≤ 9000) (h0 : q.num ≠ 0) (W : World) : Calls Tryz.prog 22 #[.string (TX p), .string (TX q)] W (GetsT (p / q) W) := by
 have h := refDiv_any (TX p) (TX q) W (by have := DS.sz hp; omega) (by have := DS.sz hq; omega);rw [tx_list, tx_list, on2_text] at h;unfold divO at h;rw [if_neg h0] at h; exact h
end
end Go.Proofs.YteoklapcifonaaaGreatDoor
namespace Nmx
end Nmx
namespace Go.Proofs.YteoklapcifonaaaGreatDoor
open Go.RowKit Nmx
open Rf
end Go.Proofs.YteoklapcifonaaaGreatDoor
namespace Go.Proofs.YteoklapcifonaaaGreatDoor
open Go.RowKit Nmx
open Rf
theorem tx_zero_test (q : Rat) : ((TX q).toList == [48]) = decide (q.num = 0) := by
 have := tx_eq q 0;rw [tx_int_zero] at this;rw [ByteArray.toList_eq (bs := ⟨#[48]⟩)] at this;rw [show ((TX q).toList == [48]) = decide (q = 0) from this];exact decide_eq_decide.2 num_zero.symm
end Go.Proofs.YteoklapcifonaaaGreatDoor

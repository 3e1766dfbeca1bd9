/- What the functions of single bytes answer: for every byte. -/
import Derived.Test.YtmmohhaolgblkaaDoorShelf
import Derived.Test.YtmmohhaolgblkaaDoorRows
import Derived.WalkKit
import Derived.WalkSpells
import Derived.WalkLawsBesides
import Derived.Deep.QuietTactic
import Derived.BigQuiet
import Derived.Test.YtmmohhaolgblkaaDoorM
namespace Go.Proofs.YtmmohhaolgblkaaDoor
open Go.RowKit

theorem ret_int {k : IntKind} {a b : Int} (h : a = b) : Ending.returned (.int k a) = .returned (.int k b) := by rw [h]
theorem ret_bool {a b : Bool} (h : a = b) : Ending.returned (.bool a) = .returned (.bool b) := by rw [h]
theorem beq_of {a b : Bool} (h : a = true ↔ b = true) : a = b := Bool.eq_iff_iff.2 h
theorem byte_all (P : UInt8 → Bool) (h : (List.range 256).all (fun n => P n.toUInt8) = true) (c : UInt8) : P c = true := by
  have := List.all_eq_true.1 h c.toNat (by simp; exact c.toNat_lt)
  simpa using this
theorem idx_marks (c : UInt8) : decide (0 ≤ Lib.indexByte [126, 33, 64, 36, 37, 94, 38, 42, 95, 45, 43, 61, 60, 62, 46, 63, 47, 58] c) = Sx.marks.contains c := by
  have := byte_all (fun c => decide (0 ≤ Lib.indexByte [126, 33, 64, 36, 37, 94, 38, 42, 95, 45, 43, 61, 60, 62, 46, 63, 47, 58] c) == Sx.marks.contains c) (by decide +kernel) c
  simpa using this

set_option maxHeartbeats 400000 in
theorem isDigit_any (c : UInt8) (w : World) :
    Calls Tryd.prog 63 #[.int .u8 c.toNat] w fun e w' => e = .returned (.bool (Sx.dig c)) ∧ w = w' := by
  go_enter Tryd.func63, Tryd.ntmps63
  go_wp2
  all_goals go_ret
  all_goals refine ⟨ret_bool (beq_of ?_), rfl⟩
  all_goals (simp only [Sx.dig, Bool.and_eq_true, decide_eq_true_eq, Bool.false_eq_true]; grind)

set_option maxHeartbeats 400000 in
theorem letter_any (c : UInt8) (w : World) :
    Calls Tryd.prog 57 #[.int .u8 c.toNat] w fun e w' => e = .returned (.bool (Sx.let1 c)) ∧ w = w' := by
  go_enter Tryd.func57, Tryd.ntmps57
  go_wp2
  all_goals go_ret
  all_goals refine ⟨ret_bool (beq_of ?_), rfl⟩
  all_goals (simp only [Sx.let1, Bool.and_eq_true, Bool.or_eq_true, decide_eq_true_eq, Bool.false_eq_true]; grind)

theorem zero_marks (c : UInt8) (h : c.toNat = 0) : Sx.marks.contains c = false := by
  have : c = 0 := UInt8.toNat_inj.1 h
  subst this; rfl

set_option maxHeartbeats 800000 in
theorem isWordByte_any (c : UInt8) (w : World) :
    Calls Tryd.prog 55 #[.int .u8 c.toNat] w fun e w' => e = .returned (.bool (Sx.wb c)) ∧ w = w' := by
  have HI : Hid (∀ c : UInt8, decide (0 ≤ Lib.indexByte [126, 33, 64, 36, 37, 94, 38, 42, 95, 45, 43, 61, 60, 62, 46, 63, 47, 58] c) = Sx.marks.contains c) := idx_marks
  go_enter Tryd.func55, Tryd.ntmps55
  go_wp2_with (first | (go_at_call 63; refine (isDigit_any _ _).mono ?_; rintro e w' ⟨rfl, rfl⟩) | (go_at_call 64; refine (Tryd.strings_IndexByte _ _ _).mono ?_; rintro e w' ⟨rfl, rfl⟩))
  all_goals go_ret
  all_goals refine ⟨ret_bool (beq_of ?_), rfl⟩
  all_goals (try simp only [HI.out])
  all_goals (try have h0 := zero_marks c (by assumption))
  all_goals (simp only [Sx.wb, Sx.let1, Sx.dig, Bool.and_eq_true, Bool.or_eq_true, decide_eq_true_eq, Bool.false_eq_true, bne_iff_ne] at *)
  all_goals (generalize Sx.marks.contains c = m at *; cases m)
  all_goals (simp only [Bool.false_eq_true, and_false, or_false, and_true, or_true] at *)
  all_goals grind
end Go.Proofs.YtmmohhaolgblkaaDoor

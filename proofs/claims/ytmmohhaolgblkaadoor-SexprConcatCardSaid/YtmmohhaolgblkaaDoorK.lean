/- The reference's functions of words. -/
import Derived.Test.YtmmohhaolgblkaaDoorJ
namespace Go.Proofs.YtmmohhaolgblkaaDoor
open Go.RowKit

theorem marks_mem (c : UInt8) : Sx.marks.contains c = (c.toNat == 126 || c.toNat == 33 || c.toNat == 64 || c.toNat == 36 || c.toNat == 37 || c.toNat == 94 || c.toNat == 38 || c.toNat == 42 || c.toNat == 95 || c.toNat == 45 || c.toNat == 43 || c.toNat == 61 || c.toNat == 60 || c.toNat == 62 || c.toNat == 46 || c.toNat == 63 || c.toNat == 47 || c.toNat == 58) := by
  have := byte_all (fun c => Sx.marks.contains c == (c.toNat == 126 || c.toNat == 33 || c.toNat == 64 || c.toNat == 36 || c.toNat == 37 || c.toNat == 94 || c.toNat == 38 || c.toNat == 42 || c.toNat == 95 || c.toNat == 45 || c.toNat == 43 || c.toNat == 61 || c.toNat == 60 || c.toNat == 62 || c.toNat == 46 || c.toNat == 63 || c.toNat == 47 || c.toNat == 58)) (by decide +kernel) c
  exact beq_iff_eq.1 this

set_option maxHeartbeats 2000000 in
set_option maxRecDepth 100000 in
theorem wordByte_any (c : UInt8) (w : World) :
    Calls Tryd.prog 42 #[.int .u8 c.toNat] w fun e w' => e = .returned (.bool (Sx.wb c)) ∧ w = w' := by
  have HM := Lib.hid (marks_mem c)
  go_enter Tryd.func42, Tryd.ntmps42
  go_wp2_with (go_at_call 57; refine (letter_any _ _).mono ?_; rintro e w' ⟨rfl, rfl⟩)
  all_goals go_ret
  all_goals refine ⟨ret_bool (beq_of ?_), rfl⟩
  all_goals (unfold Sx.wb; rw [HM.out])
  all_goals (simp only [Sx.dig, Bool.and_eq_true, Bool.or_eq_true, decide_eq_true_eq, Bool.false_eq_true, beq_iff_eq, beq_eq_false_iff_ne, ne_eq] at *)
  all_goals first | grind | (refine ⟨fun hh => hh.elim, fun hh => ?_⟩; have hl : Sx.let1 c = false := by simpa using (show ¬ Sx.let1 c = true by assumption)
                             simp only [hl, Bool.false_eq_true, or_false] at hh; omega)

theorem ret_str {a b : ByteArray} (h : a = b) : Ending.returned (.string a) = .returned (.string b) := by rw [h]
theorem mk_toList (t : ByteArray) : (⟨t.data.toList.toArray⟩ : ByteArray) = t := by cases t; simp
def digitsF (l : List UInt8) : Bool := l.all Sx.dig && l != []

set_option maxHeartbeats 400000 in
theorem digits_any (s : ByteArray) (w : World) (hs : s.size ≤ maxLen) :
    Calls Tryd.prog 58 #[.string s] w fun e w' => e = .returned (.bool (digitsF s.data.toList)) ∧ w = w' := by
  unfold maxLen at hs
  go_enter Tryd.func58, Tryd.ntmps58
  go_wp2
  go_loop [3] (fun i => ∃ k : Nat, k ≤ s.size ∧ i = .int .i64 k ∧ (s.data.toList.take k).all Sx.dig = true) (fun i => s.size - (intOf i).toNat)
  case atStart => exact ⟨0, Nat.zero_le _, rfl, rfl⟩
  case round =>
    obtain ⟨k, hk, rfl, ha⟩ := hrel
    have HA := Lib.hid ha
    clear ha
    by_cases hlt : k < s.size
    · by_cases hd : Sx.dig s[k] = true
      · have h1 : ¬ (s[k].toNat : Int) < 48 := by simp only [Sx.dig, Bool.and_eq_true, decide_eq_true_eq] at hd; omega
        have h2 : ¬ 57 < (s[k].toNat : Int) := by simp only [Sx.dig, Bool.and_eq_true, decide_eq_true_eq] at hd; omega
        have HD := Lib.hid hd
        clear hd
        go_wp2
        go_round
        case rel => exact ⟨k + 1, by omega, by go_num, all_snoc Sx.dig s k hlt HA.out HD.out⟩
        case measure => simp [intOf]; omega
      · have HF : Hid (digitsF s.data.toList = false) := Lib.hid (by unfold digitsF; rw [all_not Sx.dig s k hlt hd]; rfl)
        by_cases h1 : (s[k].toNat : Int) < 48
        · clear hd
          go_wp2
          go_ret
          exact ⟨ret_bool (by rw [HF.out]), rfl⟩
        · have h2 : 57 < (s[k].toNat : Int) := by simp only [Sx.dig, Bool.and_eq_true, decide_eq_true_eq] at hd; omega
          clear hd
          go_wp2
          go_ret
          exact ⟨ret_bool (by rw [HF.out]), rfl⟩
    · have HF : Hid (digitsF s.data.toList = !s.toList.isEmpty) := Lib.hid (by unfold digitsF; rw [all_end Sx.dig s k hlt HA.out, ByteArray.toList_eq]; cases s.data.toList <;> rfl)
      clear HA
      go_wp2
      go_ret
      exact ⟨ret_bool (by rw [HF.out]), rfl⟩

/-- without leading zeros -/
def trimF : List UInt8 → List UInt8
  | [] => []
  | [c] => [c]
  | c :: d :: r => if c.toNat = 48 then trimF (d :: r) else c :: d :: r
theorem trimF_eq (l : List UInt8) : trimF l = l ↔ l.length ≤ 1 ∨ (l.headD 0).toNat ≠ 48 := by
  match l with
  | [] => simp [trimF]
  | [c] => simp [trimF]
  | c :: d :: r =>
    have hlen : ∀ l : List UInt8, (trimF l).length ≤ l.length := by
      intro l
      induction l with
      | nil => simp [trimF]
      | cons a r ih =>
        cases r with
        | nil => simp [trimF]
        | cons b r => simp only [trimF]; split <;> simp at * <;> omega
    simp only [trimF]
    split
    · rename_i h
      constructor
      · intro e
        have := hlen (d :: r)
        rw [e] at this; simp at this; omega
      · intro e; simp [h] at e
    · rename_i h; simp [h]

set_option maxHeartbeats 400000 in
theorem trim_any (s : ByteArray) (w : World) (hs : s.size ≤ maxLen) :
    Calls Tryd.prog 59 #[.string s] w fun e w' => e = .returned (.string ⟨(trimF s.data.toList).toArray⟩) ∧ w = w' := by
  unfold maxLen at hs
  go_enter Tryd.func59, Tryd.ntmps59
  go_wp2
  go_loop [0] (fun v => ∃ t : ByteArray, v = .string t ∧ t.size ≤ s.size ∧ trimF t.data.toList = trimF s.data.toList) (fun v => match v with | .string t => t.size | _ => 0)
  case atStart => exact ⟨s, rfl, Nat.le_refl _, rfl⟩
  case round =>
    obtain ⟨t, rfl, ht, hr⟩ := hrel
    have HR := Lib.hid hr
    clear hr
    by_cases h1 : 1 < t.size
    · have h0 : 0 < t.size := by omega
      have e2 : t.data.toList = t[0] :: t[1] :: t.data.toList.drop 2 := by
        have a := drop_at t 0 h0
        rw [List.drop_zero] at a
        exact a.trans (congrArg (t[0] :: ·) (drop_at t 1 h1))
      by_cases hz : t[0].toNat = 48
      · have hz1 : ((t[0].toNat : Int) == 48) = true := by simp [hz]
        have HE := Lib.hid e2
        have HZ := Lib.hid hz
        clear e2 hz
        go_wp2
        refine ⟨⟨t.extract 1 t.size, rfl, by rw [ByteArray.size_extract]; omega, ?_⟩, ?_⟩
        · rw [← HR.out, HE.out]
          simp only [trimF]
          rw [if_pos HZ.out, Lib.extract_to_end]
          congr 1
          have := drop_at t 1 h1
          rw [this]
        · show (t.extract 1 t.size).size < t.size
          rw [ByteArray.size_extract]; omega
      · have hz1 : ((t[0].toNat : Int) == 48) = false := by simp; omega
        have HE := Lib.hid e2
        have HZ := Lib.hid hz
        clear e2 hz
        go_wp2
        go_ret
        refine ⟨ret_str ?_, rfl⟩
        rw [← HR.out, HE.out]
        simp only [trimF]
        rw [if_neg HZ.out, ← HE.out]
    · have hz1 : decide (1 < t.size) = false := by simp; omega
      go_wp2
      go_ret
      refine ⟨ret_str ?_, rfl⟩
      rw [← HR.out]
      have hl := len_data t
      have : trimF t.data.toList = t.data.toList := (trimF_eq _).2 (.inl (by omega))
      rw [this]
end Go.Proofs.YtmmohhaolgblkaaDoor

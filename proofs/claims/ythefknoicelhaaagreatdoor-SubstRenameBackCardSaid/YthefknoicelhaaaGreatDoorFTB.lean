/- Names: term.IsName and the reference's Name at any text. -/
import Derived.Test.YthefknoicelhaaaGreatDoorFNV
namespace Go.Proofs.YthefknoicelhaaaGreatDoor
open Go.RowKit Nmx

/-- a letter, a digit -/
def isLz (c : Int) : Bool := (decide (97 ≤ c) && decide (c ≤ 122)) || (decide (65 ≤ c) && decide (c ≤ 90))
def isDz (c : Int) : Bool := decide (48 ≤ c) && decide (c ≤ 57)
/-- what stands at the beginning, and what stands behind it beside that -/
def fstC (c : Int) : Bool := isLz c || c == 95 || c == 36 || c == 33
def sndC (c : Int) : Bool := isDz c || c == 46 || c == 64
def okC (i : Nat) (c : Int) : Bool := fstC c || (!(i == 0) && sndC c)
/-- the reserved words -/
def resL : List (List UInt8) := [[97, 110, 100], [111, 114], [110, 111, 116], [105, 116, 101], [116, 114, 117, 101], [102, 97, 108, 115, 101], [108, 101, 116], [102, 111, 114, 97, 108, 108], [101, 120, 105, 115, 116, 115], [100, 105, 115, 116, 105, 110, 99, 116], [100, 105, 118], [109, 111, 100], [115, 101, 108, 101, 99, 116], [115, 116, 111, 114, 101], [99, 111, 110, 115, 116], [66, 111, 111, 108], [73, 110, 116], [82, 101, 97, 108], [65, 114, 114, 97, 121]]
section
set_option maxRecDepth 100000
set_option maxHeartbeats 4000000
theorem isLetter_any (c : Int) (w : World) : Calls Tryz.prog 52 #[.int .u8 c] w fun e w' => e = .returned (.bool (isLz c)) ∧ w' = w := by
  by_cases h1 : 97 ≤ c <;> by_cases h2 : c ≤ 122 <;> by_cases h3 : 65 ≤ c <;> by_cases h4 : c ≤ 90
  all_goals
    go_enter Tryz.func52, Tryz.ntmps52
    go_wp2
    go_ret
    refine ⟨?_, rfl⟩
    simp [isLz, h1, h2, h3, h4]
theorem refLetter_any (c : Int) (w : World) : Calls Tryz.prog 46 #[.int .u8 c] w fun e w' => e = .returned (.bool (isLz c)) ∧ w' = w := by
  by_cases h1 : 97 ≤ c <;> by_cases h2 : c ≤ 122 <;> by_cases h3 : 65 ≤ c <;> by_cases h4 : c ≤ 90
  all_goals
    go_enter Tryz.func46, Tryz.ntmps46
    go_wp2
    go_ret
    refine ⟨?_, rfl⟩
    simp [isLz, h1, h2, h3, h4]
theorem isDigit_any (c : Int) (w : World) : Calls Tryz.prog 53 #[.int .u8 c] w fun e w' => e = .returned (.bool (isDz c)) ∧ w' = w := by
  by_cases h1 : 48 ≤ c <;> by_cases h2 : c ≤ 57
  all_goals
    go_enter Tryz.func53, Tryz.ntmps53
    go_wp2
    go_ret
    refine ⟨?_, rfl⟩
    simp [isDz, h1, h2]
def resF (l : List UInt8) : Bool := resL.any fun x => l == x
theorem isReserved_any (s : ByteArray) (w : World) : Calls Tryz.prog 51 #[.string s] w fun e w' => e = .returned (.bool (resF s.toList)) ∧ w' = w := by
  go_enter Tryz.func51, Tryz.ntmps51
  go_wp2
  all_goals
    first
      | (go_ret; refine ⟨?_, rfl⟩; simp [resF, resL, *]; done)
      | (exfalso; simp_all; done)
end
end Go.Proofs.YthefknoicelhaaaGreatDoor
/- Names, the second part. -/
namespace Go.Proofs.YthefknoicelhaaaGreatDoor
open Go.RowKit Nmx

/-- a name -/
def nameF (l : List UInt8) : Bool := !l.isEmpty && decide (l.length ≤ 40) && !resF l && (List.range l.length).all fun i => okC i ((l.getD i 0).toNat : Int)
theorem list_len (s : ByteArray) : s.toList.length = s.size := by rw [ByteArray.toList_eq]; exact size_data s
theorem list_at {s : ByteArray} {k : Nat} (h : k < s.size) : s.toList.getD k 0 = s[k] := by
  rw [ByteArray.toList_eq, List.getD_eq_getElem?_getD, List.getElem?_eq_getElem (by rw [size_data]; exact h)]
  rfl
theorem okC_take {s : ByteArray} {k : Nat} (h : k < s.size) (ha : ∀ j, j < k → okC j ((s.toList.getD j 0).toNat : Int) = true) (hk : okC k ((s[k].toNat : Int)) = true) : ∀ j, j < k + 1 → okC j ((s.toList.getD j 0).toNat : Int) = true := fun j hj => by
  by_cases e : j = k
  · subst e; rw [list_at h]; exact hk
  · exact ha j (by omega)
theorem nameF_no {s : ByteArray} {k : Nat} (h : k < s.size) (hk : okC k ((s[k].toNat : Int)) = false) : nameF s.toList = false := by
  have : ((List.range s.toList.length).all fun i => okC i ((s.toList.getD i 0).toNat : Int)) = false := by
    refine Bool.eq_false_iff.2 fun e => ?_
    have := List.all_eq_true.1 e k (List.mem_range.2 (by rw [list_len]; exact h))
    rw [list_at h, hk] at this
    cases this
  unfold nameF
  rw [this, Bool.and_false]
theorem nameF_yes {s : ByteArray} {k : Nat} (h0 : s.toList ≠ []) (h1 : ¬ 40 < s.size) (hr : resF s.toList = false) (hk : s.size ≤ k) (ha : ∀ j, j < k → okC j ((s.toList.getD j 0).toNat : Int) = true) : nameF s.toList = true := by
  have : ((List.range s.toList.length).all fun i => okC i ((s.toList.getD i 0).toNat : Int)) = true :=
    List.all_eq_true.2 fun j hj => ha j (by have := List.mem_range.1 hj; rw [list_len] at this; omega)
  unfold nameF
  rw [this, hr, list_len, decide_eq_true (by omega)]
  cases h : s.toList with
  | nil => exact absurd h h0
  | cons _ _ => rfl
section
set_option maxRecDepth 100000
set_option maxHeartbeats 4000000
theorem isName_any (s : ByteArray) (w : World) : Calls Tryz.prog 26 #[.string s] w fun e w' => e = .returned (.bool (nameF s.toList)) ∧ w' = w := by
  by_cases h0 : s.toList = []
  · have h0' : s.toList.isEmpty = true := by rw [h0]; rfl
    have HR : Hid (nameF s.toList = false) := Lib.hid (by unfold nameF; rw [h0']; rfl)
    go_enter Tryz.func26, Tryz.ntmps26
    go_wp2
    go_ret
    exact ⟨ret_bool HR.out.symm, rfl⟩
  have h0' : s.toList.isEmpty = false := by
    cases h : s.toList with
    | nil => exact absurd h h0
    | cons _ _ => rfl
  by_cases h1 : 40 < s.size
  · have h1' : (40 : Int) < (s.size : Int) := by omega
    have HR : Hid (nameF s.toList = false) := Lib.hid (by unfold nameF; rw [list_len, decide_eq_false (by omega), Bool.and_false]; rfl)
    go_enter Tryz.func26, Tryz.ntmps26
    go_wp2
    go_ret
    exact ⟨ret_bool HR.out.symm, rfl⟩
  have h1' : ¬ (40 : Int) < (s.size : Int) := by omega
  by_cases hr : resF s.toList = true
  · have HR : Hid (nameF s.toList = false) := Lib.hid (by unfold nameF; rw [hr, Bool.not_true, Bool.and_false]; rfl)
    go_enter Tryz.func26, Tryz.ntmps26
    go_wp2_with (go_at_call 51; refine (isReserved_any _ _).mono ?_; rintro e w1 ⟨rfl, rfl⟩)
    go_ret
    exact ⟨ret_bool HR.out.symm, rfl⟩
  replace hr : resF s.toList = false := by simpa using hr
  go_enter Tryz.func26, Tryz.ntmps26
  go_wp2_with (go_at_call 51; refine (isReserved_any _ _).mono ?_; rintro e w1 ⟨rfl, rfl⟩)
  go_loop [3] (fun iv => ∃ k : Nat, k ≤ s.size ∧ iv = .int .i64 k ∧ ∀ j, j < k → okC j ((s.toList.getD j 0).toNat : Int) = true) (fun iv => s.size - (intOf iv).toNat)
  case atStart => exact ⟨0, Nat.zero_le _, rfl, fun j hj => absurd hj (Nat.not_lt_zero j)⟩
  case round =>
    obtain ⟨k, hk, rfl, ha⟩ := hrel
    have HA := Lib.hid ha
    clear ha
    by_cases hlt : k < s.size
    · skip
      by_cases hL : isLz (s[k].toNat : Int) = true
      · have HD := Lib.hid (okC_take hlt HA.out (by simp [okC, fstC, sndC, hL]))
        go_wp2_with (first | (go_at_call 52; refine (isLetter_any _ _).mono ?_; rintro e w2 ⟨rfl, rfl⟩) | (go_at_call 53; refine (isDigit_any _ _).mono ?_; rintro e w2 ⟨rfl, rfl⟩))
        go_round
        case rel => exact ⟨k + 1, by omega, by go_num, HD.out⟩
        case measure => simp [intOf]; omega
      · replace hL : isLz (s[k].toNat : Int) = false := by simpa using hL
        by_cases h95 : (s[k].toNat : Int) = 95
        · have q95 : ((s[k].toNat : Int) == 95) = true := by rw [beq_iff_eq]; omega
          have d95 : decide ((s[k].toNat : Int) = 95) = true := decide_eq_true (by omega)
          clear h95
          have HD := Lib.hid (okC_take hlt HA.out (by simp [okC, fstC, sndC, hL, q95]))
          go_wp2_with (first | (go_at_call 52; refine (isLetter_any _ _).mono ?_; rintro e w2 ⟨rfl, rfl⟩) | (go_at_call 53; refine (isDigit_any _ _).mono ?_; rintro e w2 ⟨rfl, rfl⟩))
          go_round
          case rel => exact ⟨k + 1, by omega, by go_num, HD.out⟩
          case measure => simp [intOf]; omega
        · have q95 : ((s[k].toNat : Int) == 95) = false := by rw [beq_eq_false_iff_ne]; omega
          have d95 : decide ((s[k].toNat : Int) = 95) = false := decide_eq_false (by omega)
          by_cases h36 : (s[k].toNat : Int) = 36
          · have q36 : ((s[k].toNat : Int) == 36) = true := by rw [beq_iff_eq]; omega
            have d36 : decide ((s[k].toNat : Int) = 36) = true := decide_eq_true (by omega)
            clear h36
            have HD := Lib.hid (okC_take hlt HA.out (by simp [okC, fstC, sndC, hL, q95, q36]))
            go_wp2_with (first | (go_at_call 52; refine (isLetter_any _ _).mono ?_; rintro e w2 ⟨rfl, rfl⟩) | (go_at_call 53; refine (isDigit_any _ _).mono ?_; rintro e w2 ⟨rfl, rfl⟩))
            go_round
            case rel => exact ⟨k + 1, by omega, by go_num, HD.out⟩
            case measure => simp [intOf]; omega
          · have q36 : ((s[k].toNat : Int) == 36) = false := by rw [beq_eq_false_iff_ne]; omega
            have d36 : decide ((s[k].toNat : Int) = 36) = false := decide_eq_false (by omega)
            by_cases h33 : (s[k].toNat : Int) = 33
            · have q33 : ((s[k].toNat : Int) == 33) = true := by rw [beq_iff_eq]; omega
              have d33 : decide ((s[k].toNat : Int) = 33) = true := decide_eq_true (by omega)
              clear h33
              have HD := Lib.hid (okC_take hlt HA.out (by simp [okC, fstC, sndC, hL, q95, q36, q33]))
              go_wp2_with (first | (go_at_call 52; refine (isLetter_any _ _).mono ?_; rintro e w2 ⟨rfl, rfl⟩) | (go_at_call 53; refine (isDigit_any _ _).mono ?_; rintro e w2 ⟨rfl, rfl⟩))
              go_round
              case rel => exact ⟨k + 1, by omega, by go_num, HD.out⟩
              case measure => simp [intOf]; omega
            · have q33 : ((s[k].toNat : Int) == 33) = false := by rw [beq_eq_false_iff_ne]; omega
              have d33 : decide ((s[k].toNat : Int) = 33) = false := decide_eq_false (by omega)
              by_cases hk : k = 0
              · subst hk
                have HR : Hid (nameF s.toList = false) := Lib.hid (nameF_no hlt (by simp [okC, fstC, sndC, hL, q95, q36, q33]))
                go_wp2_with (first | (go_at_call 52; refine (isLetter_any _ _).mono ?_; rintro e w2 ⟨rfl, rfl⟩) | (go_at_call 53; refine (isDigit_any _ _).mono ?_; rintro e w2 ⟨rfl, rfl⟩))
                go_ret
                exact ⟨ret_bool HR.out.symm, rfl⟩
              · have hk0 : (k == 0) = false := by rw [beq_eq_false_iff_ne]; exact hk
                have hki : ((k : Int) == 0) = false := by rw [beq_eq_false_iff_ne]; omega
                have hkd : decide ((k : Int) = 0) = false := decide_eq_false (by omega)
                by_cases hD : isDz (s[k].toNat : Int) = true
                · skip
                  have HD := Lib.hid (okC_take hlt HA.out (by simp [okC, fstC, sndC, hL, hD, hk0]))
                  go_wp2_with (first | (go_at_call 52; refine (isLetter_any _ _).mono ?_; rintro e w2 ⟨rfl, rfl⟩) | (go_at_call 53; refine (isDigit_any _ _).mono ?_; rintro e w2 ⟨rfl, rfl⟩))
                  go_round
                  case rel => exact ⟨k + 1, by omega, by go_num, HD.out⟩
                  case measure => simp [intOf]; omega
                · have hD' : isDz (s[k].toNat : Int) = false := by simpa using hD
                  clear hD
                  by_cases h46 : (s[k].toNat : Int) = 46
                  · have q46 : ((s[k].toNat : Int) == 46) = true := by rw [beq_iff_eq]; omega
                    have d46 : decide ((s[k].toNat : Int) = 46) = true := decide_eq_true (by omega)
                    have n46 : ((s[k].toNat : Int) != 46) = false := by rw [bne, q46]; rfl
                    clear h46
                    have HD := Lib.hid (okC_take hlt HA.out (by simp [okC, fstC, sndC, hL, hD', q46, hk0]))
                    go_wp2_with (first | (go_at_call 52; refine (isLetter_any _ _).mono ?_; rintro e w2 ⟨rfl, rfl⟩) | (go_at_call 53; refine (isDigit_any _ _).mono ?_; rintro e w2 ⟨rfl, rfl⟩))
                    go_round
                    case rel => exact ⟨k + 1, by omega, by go_num, HD.out⟩
                    case measure => simp [intOf]; omega
                  · have q46 : ((s[k].toNat : Int) == 46) = false := by rw [beq_eq_false_iff_ne]; omega
                    have d46 : decide ((s[k].toNat : Int) = 46) = false := decide_eq_false (by omega)
                    have n46 : ((s[k].toNat : Int) != 46) = true := by rw [bne, q46]; rfl
                    by_cases h64 : (s[k].toNat : Int) = 64
                    · have q64 : ((s[k].toNat : Int) == 64) = true := by rw [beq_iff_eq]; omega
                      have d64 : decide ((s[k].toNat : Int) = 64) = true := decide_eq_true (by omega)
                      have n64 : ((s[k].toNat : Int) != 64) = false := by rw [bne, q64]; rfl
                      clear h64
                      have HD := Lib.hid (okC_take hlt HA.out (by simp [okC, fstC, sndC, hL, hD', q64, hk0]))
                      go_wp2_with (first | (go_at_call 52; refine (isLetter_any _ _).mono ?_; rintro e w2 ⟨rfl, rfl⟩) | (go_at_call 53; refine (isDigit_any _ _).mono ?_; rintro e w2 ⟨rfl, rfl⟩))
                      go_round
                      case rel => exact ⟨k + 1, by omega, by go_num, HD.out⟩
                      case measure => simp [intOf]; omega
                    · have q64 : ((s[k].toNat : Int) == 64) = false := by rw [beq_eq_false_iff_ne]; omega
                      have d64 : decide ((s[k].toNat : Int) = 64) = false := decide_eq_false (by omega)
                      have n64 : ((s[k].toNat : Int) != 64) = true := by rw [bne, q64]; rfl
                      have HR : Hid (nameF s.toList = false) := Lib.hid (nameF_no hlt (by simp [okC, fstC, sndC, hL, q95, q36, q33, hD', q46, q64]))
                      go_wp2_with (first | (go_at_call 52; refine (isLetter_any _ _).mono ?_; rintro e w2 ⟨rfl, rfl⟩) | (go_at_call 53; refine (isDigit_any _ _).mono ?_; rintro e w2 ⟨rfl, rfl⟩))
                      go_ret
                      exact ⟨ret_bool HR.out.symm, rfl⟩
    · have HR : Hid (nameF s.toList = true) := Lib.hid (nameF_yes h0 h1 hr (by omega) HA.out)
      have hlt' : ¬ ((k : Int) < (s.size : Int)) := by omega
      go_wp2
      go_ret
      exact ⟨ret_bool HR.out.symm, rfl⟩
end
end Go.Proofs.YthefknoicelhaaaGreatDoor

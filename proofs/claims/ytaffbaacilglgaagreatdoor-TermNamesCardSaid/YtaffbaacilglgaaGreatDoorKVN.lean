/- Names by the reference. -/
import Derived.Test.YtaffbaacilglgaaGreatDoorKTB
import Derived.Test.YtaffbaacilglgaaGreatDoorKVM
namespace Go.Proofs.YtaffbaacilglgaaGreatDoor
open Go.RowKit Nmx

theorem ba_eq (s : ByteArray) (l : List UInt8) (h : s.data.toList = l) : s = ⟨l.toArray⟩ := by
  apply ByteArray.ext; apply Array.toList_inj.1; rw [h]
theorem bytes_of {s : ByteArray} {x : List UInt8} (h : s.toList = x) : s = ⟨x.toArray⟩ := by
  apply ba_eq
  rw [← ByteArray.toList_eq]; exact h
theorem toList_mk (x : List UInt8) : (⟨x.toArray⟩ : ByteArray).toList = x := by rw [ByteArray.toList_eq]
section
set_option maxRecDepth 100000
set_option maxHeartbeats 4000000
theorem in_any (l : List (List UInt8)) (s : ByteArray) (B : Nat) (w : World) (hl : l.length ≤ 1000) (hB : w.heap[B]? = some (.cells (l.map fun x => Value.string ⟨x.toArray⟩).toArray 9 (0, 0))) :
    Calls Tryz.prog 14 #[.slice (some ⟨B, 0, none⟩) l.length l.length, .string s] w fun e w' => e = .returned (.bool (l.any fun x => s.toList == x)) ∧ w' = w := by
  have HB := Lib.hid hB
  obtain ⟨n, hn⟩ : ∃ n, l.length = n := ⟨_, rfl⟩
  have HN := Lib.hid hn
  rw [hn] at hl ⊢
  clear hn hB
  go_enter Tryz.func14, Tryz.ntmps14
  go_wp2
  go_loop [5] (fun iv => ∃ k : Nat, k ≤ n ∧ iv = .int .i64 k ∧ ∀ x ∈ l.take k, (s.toList == x) = false) (fun iv => n - (intOf iv).toNat)
  case atStart => exact ⟨0, Nat.zero_le _, rfl, fun x hx => by rw [List.take_zero] at hx; exact (List.not_mem_nil hx).elim⟩
  case round =>
    obtain ⟨k, hk, rfl, ha⟩ := hrel
    have HA := Lib.hid ha
    clear ha
    by_cases hlt : k < n
    · have hlt' : k < l.length := by rw [HN.out]; exact hlt
      have hlti : (k : Int) < (n : Int) := by omega
      have hc : w.cell? ⟨B, k, none⟩ = some (.string ⟨l[k].toArray⟩) := (heap_cell HB.out k).trans (by simp [hlt'])
      by_cases he : s.toList = l[k]
      · have hR : (l.any fun x => s.toList == x) = true := List.any_eq_true.2 ⟨l[k], List.getElem_mem hlt', by rw [he]; simp⟩
        have HR := Lib.hid hR
        have hq : ((⟨l[k].toArray⟩ : ByteArray).toList == s.toList) = true := by rw [toList_mk, he]; simp
        obtain ⟨tn, htn⟩ : ∃ t : ByteArray, (⟨l[k].toArray⟩ : ByteArray) = t := ⟨_, rfl⟩
        rw [htn] at hc hq
        clear he hR htn
        go_wp2
        go_ret
        exact ⟨ret_bool HR.out.symm, rfl⟩
      · have HD : Hid (∀ x ∈ l.take (k + 1), (s.toList == x) = false) := Lib.hid (fun x hx => by
          rw [List.take_succ_eq_append_getElem hlt'] at hx
          rcases List.mem_append.1 hx with h | h
          · exact HA.out x h
          · rw [List.mem_singleton.1 h]; exact beq_eq_false_iff_ne.2 he)
        have hq : ((⟨l[k].toArray⟩ : ByteArray).toList == s.toList) = false := by rw [toList_mk]; exact beq_eq_false_iff_ne.2 fun e => he e.symm
        obtain ⟨tn, htn⟩ : ∃ t : ByteArray, (⟨l[k].toArray⟩ : ByteArray) = t := ⟨_, rfl⟩
        rw [htn] at hc hq
        clear he htn
        go_wp2
        go_round
        case rel => exact ⟨k + 1, by omega, by go_num, HD.out⟩
        case measure => simp [intOf]; omega
    · have hlti : ¬ ((k : Int) < (n : Int)) := by omega
      have HR : Hid ((l.any fun x => s.toList == x) = false) := Lib.hid (by
        have hall : l.take k = l := List.take_of_length_le (by rw [HN.out]; omega)
        have := HA.out
        rw [hall] at this
        exact List.any_eq_false.2 fun x hx => by rw [this x hx]; exact Bool.false_ne_true)
      go_wp2
      go_ret
      exact ⟨ret_bool HR.out.symm, rfl⟩
theorem refReserved_any (w : World) : Calls Tryz.prog 15 #[] w fun e w' => e = .returned (.slice (some ⟨w.heap.size, 0, none⟩) 19 19) ∧ w' = w.alloc (.cells (resL.map fun x => Value.string ⟨x.toArray⟩).toArray 9) := by
  go_enter Tryz.func15, Tryz.ntmps15
  go_wp2
  go_ret
  exact ⟨rfl, rfl⟩
theorem inReserved (s : ByteArray) (B : Nat) (w : World) (hB : w.heap[B]? = some (.cells (resL.map fun x => Value.string ⟨x.toArray⟩).toArray 9 (0, 0))) : Calls Tryz.prog 14 #[.slice (some ⟨B, 0, none⟩) 19 19, .string s] w fun e w' => e = .returned (.bool (resF s.toList)) ∧ w' = w :=
  in_any resL s B w (by decide) hB
theorem refName_any (s : ByteArray) (w : World) : Calls Tryz.prog 7 #[.string s] w fun e w' => e = .returned (.bool (nameF s.toList)) ∧ Below w.heap.size w w' := by
  by_cases h0 : s.toList = []
  · have h0' : s.toList.isEmpty = true := by rw [h0]; rfl
    have HR : Hid (nameF s.toList = false) := Lib.hid (by unfold nameF; rw [h0']; rfl)
    go_enter Tryz.func7, Tryz.ntmps7
    go_wp2
    go_ret
    exact ⟨ret_bool HR.out.symm, Below.refl _ _⟩
  have h0' : s.toList.isEmpty = false := by
    cases h : s.toList with
    | nil => exact absurd h h0
    | cons _ _ => rfl
  by_cases h1 : 40 < s.size
  · have h1' : (40 : Int) < (s.size : Int) := by omega
    have HR : Hid (nameF s.toList = false) := Lib.hid (by unfold nameF; rw [list_len, decide_eq_false (by omega), Bool.and_false]; rfl)
    go_enter Tryz.func7, Tryz.ntmps7
    go_wp2
    go_ret
    exact ⟨ret_bool HR.out.symm, Below.refl _ _⟩
  have h1' : ¬ (40 : Int) < (s.size : Int) := by omega
  have HBL : Hid (Below w.heap.size w (w.alloc (.cells (resL.map fun x => Value.string ⟨x.toArray⟩).toArray 9))) := Lib.hid ((Below.refl _ _).alloc (Nat.le_refl _) _)
  have HIN := Lib.hid (inReserved s w.heap.size _ (heap_alloc_new w (.cells (resL.map fun x => Value.string ⟨x.toArray⟩).toArray 9)))
  have hrv := refReserved_any w
  generalize w.alloc (.cells (resL.map fun x => Value.string ⟨x.toArray⟩).toArray 9) = w0 at *
  have HRV := Lib.hid hrv
  clear hrv
  by_cases hr : resF s.toList = true
  · have HR : Hid (nameF s.toList = false) := Lib.hid (by unfold nameF; rw [hr, Bool.not_true, Bool.and_false]; rfl)
    go_enter Tryz.func7, Tryz.ntmps7
    go_wp2_with fail
    refine HRV.out.mono ?_
    rintro e w1 ⟨rfl, rfl⟩
    go_wp2_with fail
    refine HIN.out.mono ?_
    rintro e w1 ⟨rfl, rfl⟩
    go_wp2
    go_ret
    exact ⟨ret_bool HR.out.symm, HBL.out⟩
  replace hr : resF s.toList = false := by simpa using hr
  go_enter Tryz.func7, Tryz.ntmps7
  go_wp2_with fail
  refine HRV.out.mono ?_
  rintro e w1 ⟨rfl, rfl⟩
  go_wp2_with fail
  refine HIN.out.mono ?_
  rintro e w1 ⟨rfl, rfl⟩
  go_wp2_with fail
  clear HRV HIN
  go_loop [3] (fun iv => ∃ k : Nat, k ≤ s.size ∧ iv = .int .i64 k ∧ ∀ j, j < k → okC j ((s.toList.getD j 0).toNat : Int) = true) (fun iv => s.size - (intOf iv).toNat)
  case atStart => exact ⟨0, Nat.zero_le _, rfl, fun j hj => absurd hj (Nat.not_lt_zero j)⟩
  case round =>
    obtain ⟨k, hk, rfl, ha⟩ := hrel
    have HA := Lib.hid ha
    clear ha
    by_cases hlt : k < s.size
    · skip
      by_cases hL : isLz (s[k].toNat : Int) = true
      · have HD := Lib.hid (okC_take hlt HA.out (by simp [okC, fstC, sndC, hL]))
        go_wp2_with (first | (go_at_call 16; refine (refLetter_any _ _).mono ?_; rintro e w2 ⟨rfl, rfl⟩))
        go_round
        case rel => exact ⟨k + 1, by omega, by go_num, HD.out⟩
        case measure => simp [intOf]; omega
      · replace hL : isLz (s[k].toNat : Int) = false := by simpa using hL
        by_cases h95 : (s[k].toNat : Int) = 95
        · have q95 : ((s[k].toNat : Int) == 95) = true := by rw [beq_iff_eq]; omega
          have d95 : decide ((s[k].toNat : Int) = 95) = true := decide_eq_true (by omega)
          clear h95
          have HD := Lib.hid (okC_take hlt HA.out (by simp [okC, fstC, sndC, hL, q95]))
          go_wp2_with (first | (go_at_call 16; refine (refLetter_any _ _).mono ?_; rintro e w2 ⟨rfl, rfl⟩))
          go_round
          case rel => exact ⟨k + 1, by omega, by go_num, HD.out⟩
          case measure => simp [intOf]; omega
        · have q95 : ((s[k].toNat : Int) == 95) = false := by rw [beq_eq_false_iff_ne]; omega
          have d95 : decide ((s[k].toNat : Int) = 95) = false := decide_eq_false (by omega)
          by_cases h36 : (s[k].toNat : Int) = 36
          · have q36 : ((s[k].toNat : Int) == 36) = true := by rw [beq_iff_eq]; omega
            have d36 : decide ((s[k].toNat : Int) = 36) = true := decide_eq_true (by omega)
            clear h36
            have HD := Lib.hid (okC_take hlt HA.out (by simp [okC, fstC, sndC, hL, q95, q36]))
            go_wp2_with (first | (go_at_call 16; refine (refLetter_any _ _).mono ?_; rintro e w2 ⟨rfl, rfl⟩))
            go_round
            case rel => exact ⟨k + 1, by omega, by go_num, HD.out⟩
            case measure => simp [intOf]; omega
          · have q36 : ((s[k].toNat : Int) == 36) = false := by rw [beq_eq_false_iff_ne]; omega
            have d36 : decide ((s[k].toNat : Int) = 36) = false := decide_eq_false (by omega)
            by_cases h33 : (s[k].toNat : Int) = 33
            · have q33 : ((s[k].toNat : Int) == 33) = true := by rw [beq_iff_eq]; omega
              have d33 : decide ((s[k].toNat : Int) = 33) = true := decide_eq_true (by omega)
              clear h33
              have HD := Lib.hid (okC_take hlt HA.out (by simp [okC, fstC, sndC, hL, q95, q36, q33]))
              go_wp2_with (first | (go_at_call 16; refine (refLetter_any _ _).mono ?_; rintro e w2 ⟨rfl, rfl⟩))
              go_round
              case rel => exact ⟨k + 1, by omega, by go_num, HD.out⟩
              case measure => simp [intOf]; omega
            · have q33 : ((s[k].toNat : Int) == 33) = false := by rw [beq_eq_false_iff_ne]; omega
              have d33 : decide ((s[k].toNat : Int) = 33) = false := decide_eq_false (by omega)
              by_cases hk : k = 0
              · subst hk
                have HR : Hid (nameF s.toList = false) := Lib.hid (nameF_no hlt (by simp [okC, fstC, sndC, hL, q95, q36, q33]))
                go_wp2_with (first | (go_at_call 16; refine (refLetter_any _ _).mono ?_; rintro e w2 ⟨rfl, rfl⟩))
                go_ret
                exact ⟨ret_bool HR.out.symm, HBL.out⟩
              · have hk0 : (k == 0) = false := by rw [beq_eq_false_iff_ne]; exact hk
                have hki : ((k : Int) == 0) = false := by rw [beq_eq_false_iff_ne]; omega
                have hkd : decide ((k : Int) = 0) = false := decide_eq_false (by omega)
                by_cases g1 : (s[k].toNat : Int) < 48
                · have hD' : isDz (s[k].toNat : Int) = false := by simp [isDz]; omega
                  by_cases h46 : (s[k].toNat : Int) = 46
                  · have q46 : ((s[k].toNat : Int) == 46) = true := by rw [beq_iff_eq]; omega
                    have d46 : decide ((s[k].toNat : Int) = 46) = true := decide_eq_true (by omega)
                    have n46 : ((s[k].toNat : Int) != 46) = false := by rw [bne, q46]; rfl
                    clear h46
                    have HD := Lib.hid (okC_take hlt HA.out (by simp [okC, fstC, sndC, hL, hD', q46, hk0]))
                    go_wp2_with (first | (go_at_call 16; refine (refLetter_any _ _).mono ?_; rintro e w2 ⟨rfl, rfl⟩))
                    go_round
                    case rel => exact ⟨k + 1, by omega, by go_num, HD.out⟩
                    case measure => simp [intOf]; omega
                  · have q46 : ((s[k].toNat : Int) == 46) = false := by rw [beq_eq_false_iff_ne]; omega
                    have d46 : decide ((s[k].toNat : Int) = 46) = false := decide_eq_false (by omega)
                    have n46 : ((s[k].toNat : Int) != 46) = true := by rw [bne, q46]; rfl
                    have h64 : ¬ (s[k].toNat : Int) = 64 := by omega
                    have q64 : ((s[k].toNat : Int) == 64) = false := by rw [beq_eq_false_iff_ne]; omega
                    have d64 : decide ((s[k].toNat : Int) = 64) = false := decide_eq_false (by omega)
                    have n64 : ((s[k].toNat : Int) != 64) = true := by rw [bne, q64]; rfl
                    have HR : Hid (nameF s.toList = false) := Lib.hid (nameF_no hlt (by simp [okC, fstC, sndC, hL, q95, q36, q33, hD', q46, q64]))
                    go_wp2_with (first | (go_at_call 16; refine (refLetter_any _ _).mono ?_; rintro e w2 ⟨rfl, rfl⟩))
                    go_ret
                    exact ⟨ret_bool HR.out.symm, HBL.out⟩
                · by_cases g2 : 57 < (s[k].toNat : Int)
                  · have hD' : isDz (s[k].toNat : Int) = false := by simp [isDz]; omega
                    have h46 : ¬ (s[k].toNat : Int) = 46 := by omega
                    have q46 : ((s[k].toNat : Int) == 46) = false := by rw [beq_eq_false_iff_ne]; omega
                    have d46 : decide ((s[k].toNat : Int) = 46) = false := decide_eq_false (by omega)
                    have n46 : ((s[k].toNat : Int) != 46) = true := by rw [bne, q46]; rfl
                    by_cases h64 : (s[k].toNat : Int) = 64
                    · have q64 : ((s[k].toNat : Int) == 64) = true := by rw [beq_iff_eq]; omega
                      have d64 : decide ((s[k].toNat : Int) = 64) = true := decide_eq_true (by omega)
                      have n64 : ((s[k].toNat : Int) != 64) = false := by rw [bne, q64]; rfl
                      clear h64
                      have HD := Lib.hid (okC_take hlt HA.out (by simp [okC, fstC, sndC, hL, hD', q64, hk0]))
                      go_wp2_with (first | (go_at_call 16; refine (refLetter_any _ _).mono ?_; rintro e w2 ⟨rfl, rfl⟩))
                      go_round
                      case rel => exact ⟨k + 1, by omega, by go_num, HD.out⟩
                      case measure => simp [intOf]; omega
                    · have q64 : ((s[k].toNat : Int) == 64) = false := by rw [beq_eq_false_iff_ne]; omega
                      have d64 : decide ((s[k].toNat : Int) = 64) = false := decide_eq_false (by omega)
                      have n64 : ((s[k].toNat : Int) != 64) = true := by rw [bne, q64]; rfl
                      have HR : Hid (nameF s.toList = false) := Lib.hid (nameF_no hlt (by simp [okC, fstC, sndC, hL, q95, q36, q33, hD', q46, q64]))
                      go_wp2_with (first | (go_at_call 16; refine (refLetter_any _ _).mono ?_; rintro e w2 ⟨rfl, rfl⟩))
                      go_ret
                      exact ⟨ret_bool HR.out.symm, HBL.out⟩
                  · have hD : isDz (s[k].toNat : Int) = true := by simp [isDz]; omega
                    have HD := Lib.hid (okC_take hlt HA.out (by simp [okC, fstC, sndC, hL, hD, hk0]))
                    go_wp2_with (first | (go_at_call 16; refine (refLetter_any _ _).mono ?_; rintro e w2 ⟨rfl, rfl⟩))
                    go_round
                    case rel => exact ⟨k + 1, by omega, by go_num, HD.out⟩
                    case measure => simp [intOf]; omega
    · have HR : Hid (nameF s.toList = true) := Lib.hid (nameF_yes h0 h1 hr (by omega) HA.out)
      have hlt' : ¬ ((k : Int) < (s.size : Int)) := by omega
      go_wp2
      go_ret
      exact ⟨ret_bool HR.out.symm, HBL.out⟩
end
end Go.Proofs.YtaffbaacilglgaaGreatDoor
/- TermNames' walk. -/
namespace Go.Proofs.YtaffbaacilglgaaGreatDoor.Se
open Go.RowKit Nmx
section
set_option maxHeartbeats 2000000
set_option maxRecDepth 100000
/-- gen.Mod, as the walk wants it -/
theorem modN_any (a b : Int) (w : World) (hb : 1 ≤ b) (hb' : b ≤ 1000000000000000000) :
    Calls Tryz.prog 4 #[.int .i64 a, .int .i64 b] w fun e w' => e = .returned (.int .i64 ((a % 18446744073709551616) % b)) ∧ w' = w := by
  have hwr : IntKind.u64.wrap a = a % 18446744073709551616 := by rw [IntKind.wrap_u64]
  have HW := Lib.hid hwr
  clear hwr
  go_enter Tryz.func4, Tryz.ntmps4
  go_wp2
  go_ret
  refine ⟨ret_int ?_, rfl⟩
  rw [HW.out, Int.tmod_eq_emod_of_nonneg (by omega)]
  have h0 := Int.emod_nonneg (a % 18446744073709551616) (show b ≠ 0 by omega)
  have h3 := Int.emod_lt_of_pos (a % 18446744073709551616) (show 0 < b by omega)
  exact IntWalk.wrap64_in _ ⟨by omega, by omega⟩
theorem modN_at (a b : Int) (hb : 1 ≤ b) (hb' : b ≤ 1000000000000000000) : ∃ m : Nat, (m : Int) < b ∧ ∀ w : World, Calls Tryz.prog 4 #[.int .i64 a, .int .i64 b] w fun e w' => e = .returned (.int .i64 m) ∧ w' = w := by
  have h0 := Int.emod_nonneg (a % 18446744073709551616) (show b ≠ 0 by omega)
  have h3 := Int.emod_lt_of_pos (a % 18446744073709551616) (show 0 < b by omega)
  obtain ⟨m, hm⟩ : ∃ m : Nat, (m : Int) = (a % 18446744073709551616) % b := ⟨((a % 18446744073709551616) % b).toNat, by omega⟩
  exact ⟨m, by omega, fun w => by rw [hm]; exact modN_any a b w hb hb'⟩
theorem word_at (k : Nat) (hk : k < 15) : ∃ t : ByteArray, (#[.string ⟨#[97, 110, 100]⟩, .string ⟨#[105, 116, 101]⟩, .string ⟨#[73, 110, 116]⟩, .string ⟨#[100, 105, 118]⟩, .string ⟨#[99, 111, 110, 115, 116]⟩, .string ⟨#[120]⟩, .string ⟨#[95]⟩, .string ⟨#[36, 97]⟩, .string ⟨#[33]⟩, .string ⟨#[120, 46, 121, 64, 122]⟩, .string ⟨#[49, 120]⟩, .string ⟨#[]⟩, .string ⟨#[97, 45, 98]⟩, .string ⟨#[64]⟩, .string ⟨#[100, 105, 115, 116, 105, 110, 99, 116, 49]⟩] : Array Value)[k]? = some (.string t) := by
  have h : k = 0 ∨ k = 1 ∨ k = 2 ∨ k = 3 ∨ k = 4 ∨ k = 5 ∨ k = 6 ∨ k = 7 ∨ k = 8 ∨ k = 9 ∨ k = 10 ∨ k = 11 ∨ k = 12 ∨ k = 13 ∨ k = 14 := by omega
  rcases h with rfl | rfl | rfl | rfl | rfl | rfl | rfl | rfl | rfl | rfl | rfl | rfl | rfl | rfl | rfl <;> exact ⟨_, rfl⟩
theorem lawNames_any (s : ByteArray) (n : Int) (w : World) (hEn : Env w) :
    Calls Tryz.prog 3 #[.string s, .int .i64 n] w fun e w' => e = .returned (.bool true) ∧ Below w.heap.size w w' := by
  obtain ⟨m6, hm6, hc6⟩ := modN_at n 6 (by omega) (by omega)
  obtain ⟨m15, hm15, hc15⟩ := modN_at n 15 (by omega) (by omega)
  have hal := alloc_far' w (.cells #[.string ⟨#[97, 110, 100]⟩, .string ⟨#[105, 116, 101]⟩, .string ⟨#[73, 110, 116]⟩, .string ⟨#[100, 105, 118]⟩, .string ⟨#[99, 111, 110, 115, 116]⟩, .string ⟨#[120]⟩, .string ⟨#[95]⟩, .string ⟨#[36, 97]⟩, .string ⟨#[33]⟩, .string ⟨#[120, 46, 121, 64, 122]⟩, .string ⟨#[49, 120]⟩, .string ⟨#[]⟩, .string ⟨#[97, 45, 98]⟩, .string ⟨#[64]⟩, .string ⟨#[100, 105, 115, 116, 105, 110, 99, 116, 49]⟩] 9)
  have hbx := heap_alloc_new w (.cells #[.string ⟨#[97, 110, 100]⟩, .string ⟨#[105, 116, 101]⟩, .string ⟨#[73, 110, 116]⟩, .string ⟨#[100, 105, 118]⟩, .string ⟨#[99, 111, 110, 115, 116]⟩, .string ⟨#[120]⟩, .string ⟨#[95]⟩, .string ⟨#[36, 97]⟩, .string ⟨#[33]⟩, .string ⟨#[120, 46, 121, 64, 122]⟩, .string ⟨#[49, 120]⟩, .string ⟨#[]⟩, .string ⟨#[97, 45, 98]⟩, .string ⟨#[64]⟩, .string ⟨#[100, 105, 115, 116, 105, 110, 99, 116, 49]⟩] 9)
  obtain ⟨wd, hwd⟩ := word_at m15 (by omega)
  have hwc := (heap_cell hbx m15).trans hwd
  have HWC := Lib.hid hwc
  have HAL := Lib.hid hal
  have HEN := Lib.hid hEn
  have HC6 := Lib.hid hc6
  have HC15 := Lib.hid hc15
  have HAW := Lib.hid (fun W (hW : Below w.heap.size w W) => awake_ok W (hEn.far hW))
  clear hal hbx hwd hwc hEn hc6 hc15
  go_enter Tryz.func3, Tryz.ntmps3
  go_wp2
  go_loop [5, 6] (fun v5 v6 => ∃ (i : Nat) (t : ByteArray), v5 = .string t ∧ v6 = .int .i64 i ∧ i ≤ 37 + m6 ∧ t.size = i + 1) (fun _ v6 => 100 - (intOf v6).toNat)
  case atStart => exact ⟨0, ⟨#[120]⟩, rfl, rfl, by omega, rfl⟩
  case round =>
    obtain ⟨i, t, rfl, rfl, hi, ht⟩ := hrel
    have hts : t.size ≤ 50 := by omega
    by_cases hlt : i < 37 + m6
    · have hlt' : (i : Int) < 37 + (m6 : Int) := by omega
      go_wp2_with (go_at_call 4; refine (HC6.out _).mono ?_; rintro e w1 ⟨rfl, hw1⟩; obtain rfl := hw1.symm)
      go_round
      case rel => exact ⟨i + 1, t ++ ⟨#[49]⟩, rfl, by go_num, by omega, by rw [ByteArray.size_append, ht]; rfl⟩
      case measure => simp [intOf]; omega
    · have hlt' : ¬ (i : Int) < 37 + (m6 : Int) := by omega
      go_upto_region 6 with (go_at_call 4; refine (HC6.out _).mono ?_; rintro e w1 ⟨rfl, hw1⟩; obtain rfl := hw1.symm)
      go_upto_region 7 with fail
      generalize w.alloc (.cells #[.string ⟨#[97, 110, 100]⟩, .string ⟨#[105, 116, 101]⟩, .string ⟨#[73, 110, 116]⟩, .string ⟨#[100, 105, 118]⟩, .string ⟨#[99, 111, 110, 115, 116]⟩, .string ⟨#[120]⟩, .string ⟨#[95]⟩, .string ⟨#[36, 97]⟩, .string ⟨#[33]⟩, .string ⟨#[120, 46, 121, 64, 122]⟩, .string ⟨#[49, 120]⟩, .string ⟨#[]⟩, .string ⟨#[97, 45, 98]⟩, .string ⟨#[64]⟩, .string ⟨#[100, 105, 115, 116, 105, 110, 99, 116, 49]⟩] 9) = w1 at *
      have hwc := HWC.out
      clear hlt hlt' hm6 hi ht
      generalize hSS : w.heap.size = S at *
      have HSZ := Lib.hid hSS
      clear hSS
      go_upto_region 8 with (go_at_call 4; refine (HC15.out _).mono ?_; rintro e w1' ⟨rfl, hw1⟩; obtain rfl := hw1.symm)
      clear hwc HWC HC6 HC15
      by_cases h100 : 100 < s.size
      · have h100' : (100 : Int) < (s.size : Int) := by omega
        have h100'' : ¬ (s.size : Int) ≤ 100 := by omega
        go_wp2_with fail
        refine (HAW.out w1 HAL.out).mono ?_
        rintro e w2 ⟨rfl, hb⟩
        have HB2 := Lib.hid (HAL.out.trans (hb.mono (by rw [← HSZ.out]; exact HAL.out.size)))
        clear hb
        go_wp2
        go_ret
        exact ⟨rfl, by rw [HSZ.out]; exact HB2.out⟩
      · have h100' : ¬ (100 : Int) < (s.size : Int) := by omega
        have h100'' : (s.size : Int) ≤ 100 := by omega
        go_wp2_with fail
        refine (isName_any s w1).mono ?_
        rintro e w' ⟨rfl, hw'⟩
        obtain rfl := hw'.symm
        go_wp2_with fail
        refine (refName_any s w1).mono ?_
        rintro e w2 ⟨rfl, hb⟩
        have HB2 := Lib.hid (HAL.out.trans (hb.mono (by rw [← HSZ.out]; exact HAL.out.size)))
        clear hb hw'
        generalize nameF s.toList = bw2 at *
        go_wp2_with fail
        refine (isName_any t w2).mono ?_
        rintro e w' ⟨rfl, hw'⟩
        obtain rfl := hw'.symm
        go_wp2_with fail
        refine (refName_any t w2).mono ?_
        rintro e w3 ⟨rfl, hb⟩
        have HB3 := Lib.hid (HB2.out.trans (hb.mono (by rw [← HSZ.out]; exact HB2.out.size)))
        clear hb hw'
        generalize nameF t.toList = bw3 at *
        go_wp2_with fail
        refine (isName_any wd w3).mono ?_
        rintro e w' ⟨rfl, hw'⟩
        obtain rfl := hw'.symm
        go_wp2_with fail
        refine (refName_any wd w3).mono ?_
        rintro e w4 ⟨rfl, hb⟩
        have HB4 := Lib.hid (HB3.out.trans (hb.mono (by rw [← HSZ.out]; exact HB3.out.size)))
        clear hb hw'
        generalize nameF wd.toList = bw4 at *
        go_wp2_with fail
        refine (HAW.out w4 HB4.out).mono ?_
        rintro e w5 ⟨rfl, hb⟩
        have HB5 := Lib.hid (HB4.out.trans (hb.mono (by rw [← HSZ.out]; exact HB4.out.size)))
        clear hb
        go_wp2
        go_ret
        exact ⟨rfl, by rw [HSZ.out]; exact HB5.out⟩
end
end Go.Proofs.YtaffbaacilglgaaGreatDoor.Se

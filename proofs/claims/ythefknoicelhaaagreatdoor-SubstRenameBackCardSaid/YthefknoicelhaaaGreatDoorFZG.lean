/- Names by the reference. -/
import Derived.Test.YthefknoicelhaaaGreatDoorFTB
namespace Go.Proofs.YthefknoicelhaaaGreatDoor
open Go.RowKit Nmx

theorem bytes_of {s : ByteArray} {x : List UInt8} (h : s.toList = x) : s = ⟨x.toArray⟩ := by
  apply ba_eq
  rw [← ByteArray.toList_eq]; exact h
theorem toList_mk (x : List UInt8) : (⟨x.toArray⟩ : ByteArray).toList = x := by rw [ByteArray.toList_eq]
section
set_option maxRecDepth 100000
set_option maxHeartbeats 4000000
theorem in_any (l : List (List UInt8)) (s : ByteArray) (B : Nat) (w : World) (hl : l.length ≤ 1000) (hB : w.heap[B]? = some (.cells (l.map fun x => Value.string ⟨x.toArray⟩).toArray 9 (0, 0))) :
    Calls Tryz.prog 33 #[.slice (some ⟨B, 0, none⟩) l.length l.length, .string s] w fun e w' => e = .returned (.bool (l.any fun x => s.toList == x)) ∧ w' = w := by
  have HB := Lib.hid hB
  obtain ⟨n, hn⟩ : ∃ n, l.length = n := ⟨_, rfl⟩
  have HN := Lib.hid hn
  rw [hn] at hl ⊢
  clear hn hB
  go_enter Tryz.func33, Tryz.ntmps33
  go_wp2
  go_loop [5] (fun iv => ∃ k : Nat, k ≤ n ∧ iv = .int .i64 k ∧ ∀ x ∈ l.take k, (s.toList == x) = false) (fun iv => n - (intOf iv).toNat)
  case atStart => exact ⟨0, Nat.zero_le _, rfl, fun x hx => by rw [List.take_zero] at hx; exact (List.not_mem_nil hx).elim⟩
  case round =>
    obtain ⟨k, hk, rfl, ha⟩ := hrel
    have HA := Lib.hid ha
    clear ha
    by_cases hlt : k < n
    · have hlt' : k < l.length := by rw [HN.out]; exact hlt
      have hlti : (k : Int) < (n : Int) := by omega
      have hc : w.cell? ⟨B, k, none⟩ = some (.string ⟨l[k].toArray⟩) := (heap_cell HB.out k).trans (by simp [hlt'])
      by_cases he : s.toList = l[k]
      · have hR : (l.any fun x => s.toList == x) = true := List.any_eq_true.2 ⟨l[k], List.getElem_mem hlt', by rw [he]; simp⟩
        have HR := Lib.hid hR
        have hq : ((⟨l[k].toArray⟩ : ByteArray).toList == s.toList) = true := by rw [toList_mk, he]; simp
        obtain ⟨tn, htn⟩ : ∃ t : ByteArray, (⟨l[k].toArray⟩ : ByteArray) = t := ⟨_, rfl⟩
        rw [htn] at hc hq
        clear he hR htn
        go_wp2
        go_ret
        exact ⟨ret_bool HR.out.symm, rfl⟩
      · have HD : Hid (∀ x ∈ l.take (k + 1), (s.toList == x) = false) := Lib.hid (fun x hx => by
          rw [List.take_succ_eq_append_getElem hlt'] at hx
          rcases List.mem_append.1 hx with h | h
          · exact HA.out x h
          · rw [List.mem_singleton.1 h]; exact beq_eq_false_iff_ne.2 he)
        have hq : ((⟨l[k].toArray⟩ : ByteArray).toList == s.toList) = false := by rw [toList_mk]; exact beq_eq_false_iff_ne.2 fun e => he e.symm
        obtain ⟨tn, htn⟩ : ∃ t : ByteArray, (⟨l[k].toArray⟩ : ByteArray) = t := ⟨_, rfl⟩
        rw [htn] at hc hq
        clear he htn
        go_wp2
        go_round
        case rel => exact ⟨k + 1, by omega, by go_num, HD.out⟩
        case measure => simp [intOf]; omega
    · have hlti : ¬ ((k : Int) < (n : Int)) := by omega
      have HR : Hid ((l.any fun x => s.toList == x) = false) := Lib.hid (by
        have hall : l.take k = l := List.take_of_length_le (by rw [HN.out]; omega)
        have := HA.out
        rw [hall] at this
        exact List.any_eq_false.2 fun x hx => by rw [this x hx]; exact Bool.false_ne_true)
      go_wp2
      go_ret
      exact ⟨ret_bool HR.out.symm, rfl⟩
theorem refReserved_any (w : World) : Calls Tryz.prog 45 #[] w fun e w' => e = .returned (.slice (some ⟨w.heap.size, 0, none⟩) 19 19) ∧ w' = w.alloc (.cells (resL.map fun x => Value.string ⟨x.toArray⟩).toArray 9) := by
  go_enter Tryz.func45, Tryz.ntmps45
  go_wp2
  go_ret
  exact ⟨rfl, rfl⟩
theorem inReserved (s : ByteArray) (B : Nat) (w : World) (hB : w.heap[B]? = some (.cells (resL.map fun x => Value.string ⟨x.toArray⟩).toArray 9 (0, 0))) : Calls Tryz.prog 33 #[.slice (some ⟨B, 0, none⟩) 19 19, .string s] w fun e w' => e = .returned (.bool (resF s.toList)) ∧ w' = w :=
  in_any resL s B w (by decide) hB
theorem refName_any (s : ByteArray) (w : World) : Calls Tryz.prog 20 #[.string s] w fun e w' => e = .returned (.bool (nameF s.toList)) ∧ Below w.heap.size w w' := by
  by_cases h0 : s.toList = []
  · have h0' : s.toList.isEmpty = true := by rw [h0]; rfl
    have HR : Hid (nameF s.toList = false) := Lib.hid (by unfold nameF; rw [h0']; rfl)
    go_enter Tryz.func20, Tryz.ntmps20
    go_wp2
    go_ret
    exact ⟨ret_bool HR.out.symm, Below.refl _ _⟩
  have h0' : s.toList.isEmpty = false := by
    cases h : s.toList with
    | nil => exact absurd h h0
    | cons _ _ => rfl
  by_cases h1 : 40 < s.size
  · have h1' : (40 : Int) < (s.size : Int) := by omega
    have HR : Hid (nameF s.toList = false) := Lib.hid (by unfold nameF; rw [list_len, decide_eq_false (by omega), Bool.and_false]; rfl)
    go_enter Tryz.func20, Tryz.ntmps20
    go_wp2
    go_ret
    exact ⟨ret_bool HR.out.symm, Below.refl _ _⟩
  have h1' : ¬ (40 : Int) < (s.size : Int) := by omega
  have HBL : Hid (Below w.heap.size w (w.alloc (.cells (resL.map fun x => Value.string ⟨x.toArray⟩).toArray 9))) := Lib.hid ((Below.refl _ _).alloc (Nat.le_refl _) _)
  have HIN := Lib.hid (inReserved s w.heap.size _ (heap_alloc_new w (.cells (resL.map fun x => Value.string ⟨x.toArray⟩).toArray 9)))
  have hrv := refReserved_any w
  generalize w.alloc (.cells (resL.map fun x => Value.string ⟨x.toArray⟩).toArray 9) = w0 at *
  have HRV := Lib.hid hrv
  clear hrv
  by_cases hr : resF s.toList = true
  · have HR : Hid (nameF s.toList = false) := Lib.hid (by unfold nameF; rw [hr, Bool.not_true, Bool.and_false]; rfl)
    go_enter Tryz.func20, Tryz.ntmps20
    go_wp2_with fail
    refine HRV.out.mono ?_
    rintro e w1 ⟨rfl, rfl⟩
    go_wp2_with fail
    refine HIN.out.mono ?_
    rintro e w1 ⟨rfl, rfl⟩
    go_wp2
    go_ret
    exact ⟨ret_bool HR.out.symm, HBL.out⟩
  replace hr : resF s.toList = false := by simpa using hr
  go_enter Tryz.func20, Tryz.ntmps20
  go_wp2_with fail
  refine HRV.out.mono ?_
  rintro e w1 ⟨rfl, rfl⟩
  go_wp2_with fail
  refine HIN.out.mono ?_
  rintro e w1 ⟨rfl, rfl⟩
  go_wp2_with fail
  clear HRV HIN
  go_loop [3] (fun iv => ∃ k : Nat, k ≤ s.size ∧ iv = .int .i64 k ∧ ∀ j, j < k → okC j ((s.toList.getD j 0).toNat : Int) = true) (fun iv => s.size - (intOf iv).toNat)
  case atStart => exact ⟨0, Nat.zero_le _, rfl, fun j hj => absurd hj (Nat.not_lt_zero j)⟩
  case round =>
    obtain ⟨k, hk, rfl, ha⟩ := hrel
    have HA := Lib.hid ha
    clear ha
    by_cases hlt : k < s.size
    · skip
      by_cases hL : isLz (s[k].toNat : Int) = true
      · have HD := Lib.hid (okC_take hlt HA.out (by simp [okC, fstC, sndC, hL]))
        go_wp2_with (first | (go_at_call 46; refine (refLetter_any _ _).mono ?_; rintro e w2 ⟨rfl, rfl⟩))
        go_round
        case rel => exact ⟨k + 1, by omega, by go_num, HD.out⟩
        case measure => simp [intOf]; omega
      · replace hL : isLz (s[k].toNat : Int) = false := by simpa using hL
        by_cases h95 : (s[k].toNat : Int) = 95
        · have q95 : ((s[k].toNat : Int) == 95) = true := by rw [beq_iff_eq]; omega
          have d95 : decide ((s[k].toNat : Int) = 95) = true := decide_eq_true (by omega)
          clear h95
          have HD := Lib.hid (okC_take hlt HA.out (by simp [okC, fstC, sndC, hL, q95]))
          go_wp2_with (first | (go_at_call 46; refine (refLetter_any _ _).mono ?_; rintro e w2 ⟨rfl, rfl⟩))
          go_round
          case rel => exact ⟨k + 1, by omega, by go_num, HD.out⟩
          case measure => simp [intOf]; omega
        · have q95 : ((s[k].toNat : Int) == 95) = false := by rw [beq_eq_false_iff_ne]; omega
          have d95 : decide ((s[k].toNat : Int) = 95) = false := decide_eq_false (by omega)
          by_cases h36 : (s[k].toNat : Int) = 36
          · have q36 : ((s[k].toNat : Int) == 36) = true := by rw [beq_iff_eq]; omega
            have d36 : decide ((s[k].toNat : Int) = 36) = true := decide_eq_true (by omega)
            clear h36
            have HD := Lib.hid (okC_take hlt HA.out (by simp [okC, fstC, sndC, hL, q95, q36]))
            go_wp2_with (first | (go_at_call 46; refine (refLetter_any _ _).mono ?_; rintro e w2 ⟨rfl, rfl⟩))
            go_round
            case rel => exact ⟨k + 1, by omega, by go_num, HD.out⟩
            case measure => simp [intOf]; omega
          · have q36 : ((s[k].toNat : Int) == 36) = false := by rw [beq_eq_false_iff_ne]; omega
            have d36 : decide ((s[k].toNat : Int) = 36) = false := decide_eq_false (by omega)
            by_cases h33 : (s[k].toNat : Int) = 33
            · have q33 : ((s[k].toNat : Int) == 33) = true := by rw [beq_iff_eq]; omega
              have d33 : decide ((s[k].toNat : Int) = 33) = true := decide_eq_true (by omega)
              clear h33
              have HD := Lib.hid (okC_take hlt HA.out (by simp [okC, fstC, sndC, hL, q95, q36, q33]))
              go_wp2_with (first | (go_at_call 46; refine (refLetter_any _ _).mono ?_; rintro e w2 ⟨rfl, rfl⟩))
              go_round
              case rel => exact ⟨k + 1, by omega, by go_num, HD.out⟩
              case measure => simp [intOf]; omega
            · have q33 : ((s[k].toNat : Int) == 33) = false := by rw [beq_eq_false_iff_ne]; omega
              have d33 : decide ((s[k].toNat : Int) = 33) = false := decide_eq_false (by omega)
              by_cases hk : k = 0
              · subst hk
                have HR : Hid (nameF s.toList = false) := Lib.hid (nameF_no hlt (by simp [okC, fstC, sndC, hL, q95, q36, q33]))
                go_wp2_with (first | (go_at_call 46; refine (refLetter_any _ _).mono ?_; rintro e w2 ⟨rfl, rfl⟩))
                go_ret
                exact ⟨ret_bool HR.out.symm, HBL.out⟩
              · have hk0 : (k == 0) = false := by rw [beq_eq_false_iff_ne]; exact hk
                have hki : ((k : Int) == 0) = false := by rw [beq_eq_false_iff_ne]; omega
                have hkd : decide ((k : Int) = 0) = false := decide_eq_false (by omega)
                by_cases g1 : (s[k].toNat : Int) < 48
                · have hD' : isDz (s[k].toNat : Int) = false := by simp [isDz]; omega
                  by_cases h46 : (s[k].toNat : Int) = 46
                  · have q46 : ((s[k].toNat : Int) == 46) = true := by rw [beq_iff_eq]; omega
                    have d46 : decide ((s[k].toNat : Int) = 46) = true := decide_eq_true (by omega)
                    have n46 : ((s[k].toNat : Int) != 46) = false := by rw [bne, q46]; rfl
                    clear h46
                    have HD := Lib.hid (okC_take hlt HA.out (by simp [okC, fstC, sndC, hL, hD', q46, hk0]))
                    go_wp2_with (first | (go_at_call 46; refine (refLetter_any _ _).mono ?_; rintro e w2 ⟨rfl, rfl⟩))
                    go_round
                    case rel => exact ⟨k + 1, by omega, by go_num, HD.out⟩
                    case measure => simp [intOf]; omega
                  · have q46 : ((s[k].toNat : Int) == 46) = false := by rw [beq_eq_false_iff_ne]; omega
                    have d46 : decide ((s[k].toNat : Int) = 46) = false := decide_eq_false (by omega)
                    have n46 : ((s[k].toNat : Int) != 46) = true := by rw [bne, q46]; rfl
                    have h64 : ¬ (s[k].toNat : Int) = 64 := by omega
                    have q64 : ((s[k].toNat : Int) == 64) = false := by rw [beq_eq_false_iff_ne]; omega
                    have d64 : decide ((s[k].toNat : Int) = 64) = false := decide_eq_false (by omega)
                    have n64 : ((s[k].toNat : Int) != 64) = true := by rw [bne, q64]; rfl
                    have HR : Hid (nameF s.toList = false) := Lib.hid (nameF_no hlt (by simp [okC, fstC, sndC, hL, q95, q36, q33, hD', q46, q64]))
                    go_wp2_with (first | (go_at_call 46; refine (refLetter_any _ _).mono ?_; rintro e w2 ⟨rfl, rfl⟩))
                    go_ret
                    exact ⟨ret_bool HR.out.symm, HBL.out⟩
                · by_cases g2 : 57 < (s[k].toNat : Int)
                  · have hD' : isDz (s[k].toNat : Int) = false := by simp [isDz]; omega
                    have h46 : ¬ (s[k].toNat : Int) = 46 := by omega
                    have q46 : ((s[k].toNat : Int) == 46) = false := by rw [beq_eq_false_iff_ne]; omega
                    have d46 : decide ((s[k].toNat : Int) = 46) = false := decide_eq_false (by omega)
                    have n46 : ((s[k].toNat : Int) != 46) = true := by rw [bne, q46]; rfl
                    by_cases h64 : (s[k].toNat : Int) = 64
                    · have q64 : ((s[k].toNat : Int) == 64) = true := by rw [beq_iff_eq]; omega
                      have d64 : decide ((s[k].toNat : Int) = 64) = true := decide_eq_true (by omega)
                      have n64 : ((s[k].toNat : Int) != 64) = false := by rw [bne, q64]; rfl
                      clear h64
                      have HD := Lib.hid (okC_take hlt HA.out (by simp [okC, fstC, sndC, hL, hD', q64, hk0]))
                      go_wp2_with (first | (go_at_call 46; refine (refLetter_any _ _).mono ?_; rintro e w2 ⟨rfl, rfl⟩))
                      go_round
                      case rel => exact ⟨k + 1, by omega, by go_num, HD.out⟩
                      case measure => simp [intOf]; omega
                    · have q64 : ((s[k].toNat : Int) == 64) = false := by rw [beq_eq_false_iff_ne]; omega
                      have d64 : decide ((s[k].toNat : Int) = 64) = false := decide_eq_false (by omega)
                      have n64 : ((s[k].toNat : Int) != 64) = true := by rw [bne, q64]; rfl
                      have HR : Hid (nameF s.toList = false) := Lib.hid (nameF_no hlt (by simp [okC, fstC, sndC, hL, q95, q36, q33, hD', q46, q64]))
                      go_wp2_with (first | (go_at_call 46; refine (refLetter_any _ _).mono ?_; rintro e w2 ⟨rfl, rfl⟩))
                      go_ret
                      exact ⟨ret_bool HR.out.symm, HBL.out⟩
                  · have hD : isDz (s[k].toNat : Int) = true := by simp [isDz]; omega
                    have HD := Lib.hid (okC_take hlt HA.out (by simp [okC, fstC, sndC, hL, hD, hk0]))
                    go_wp2_with (first | (go_at_call 46; refine (refLetter_any _ _).mono ?_; rintro e w2 ⟨rfl, rfl⟩))
                    go_round
                    case rel => exact ⟨k + 1, by omega, by go_num, HD.out⟩
                    case measure => simp [intOf]; omega
    · have HR : Hid (nameF s.toList = true) := Lib.hid (nameF_yes h0 h1 hr (by omega) HA.out)
      have hlt' : ¬ ((k : Int) < (s.size : Int)) := by omega
      go_wp2
      go_ret
      exact ⟨ret_bool HR.out.symm, HBL.out⟩
end
end Go.Proofs.YthefknoicelhaaaGreatDoor
/- Rows of strings; whether a string is one of them. -/
namespace Go.Proofs.YthefknoicelhaaaGreatDoor
open Go.RowKit Nmx

/-- a slice of strings, each given by its bytes -/
structure Strs (w : World) (ao : Option Addr) (B : Nat) (l : List (List UInt8)) : Prop where
  adr : l.length ≠ 0 → ao = some ⟨B, 0, none⟩
  cells : ∀ (k : Nat) (x : List UInt8), l[k]? = some x → w.cell? ⟨B, k, none⟩ = some (.string ⟨x.toArray⟩)
  lt : B < w.heap.size
theorem Strs.far {w w' : World} {ao : Option Addr} {B : Nat} {l : List (List UInt8)} (h : Strs w ao B l) (hb : Below w.heap.size w w') : Strs w' ao B l :=
  ⟨h.adr, fun k x hx => (hb.cell (p := ⟨B, k, none⟩) h.lt).trans (h.cells k x hx), Nat.lt_of_lt_of_le h.lt hb.size⟩
section
set_option maxRecDepth 100000
set_option maxHeartbeats 4000000
theorem in2_any (l : List (List UInt8)) (s : ByteArray) (ao : Option Addr) (B cap : Nat) (w : World) (hl : l.length ≤ 1000) (hB : Strs w ao B l) :
    Calls Tryz.prog 33 #[.slice ao l.length cap, .string s] w fun e w' => e = .returned (.bool (l.any fun x => s.toList == x)) ∧ w' = w := by
  have HB := Lib.hid hB
  obtain ⟨n, hn⟩ : ∃ n, l.length = n := ⟨_, rfl⟩
  have HN := Lib.hid hn
  rw [hn] at hl ⊢
  clear hn hB
  go_enter Tryz.func33, Tryz.ntmps33
  go_wp2
  go_loop [5] (fun iv => ∃ k : Nat, k ≤ n ∧ iv = .int .i64 k ∧ ∀ x ∈ l.take k, (s.toList == x) = false) (fun iv => n - (intOf iv).toNat)
  case atStart => exact ⟨0, Nat.zero_le _, rfl, fun x hx => by rw [List.take_zero] at hx; exact (List.not_mem_nil hx).elim⟩
  case round =>
    obtain ⟨k, hk, rfl, ha⟩ := hrel
    have HA := Lib.hid ha
    clear ha
    by_cases hlt : k < n
    · have hlt' : k < l.length := by rw [HN.out]; exact hlt
      have hlti : (k : Int) < (n : Int) := by omega
      have hc : w.cell? ⟨B, k, none⟩ = some (.string ⟨l[k].toArray⟩) := HB.out.cells k _ (List.getElem?_eq_getElem hlt')
      obtain rfl := HB.out.adr (by omega)
      by_cases he : s.toList = l[k]
      · have hR : (l.any fun x => s.toList == x) = true := List.any_eq_true.2 ⟨l[k], List.getElem_mem hlt', by rw [he]; simp⟩
        have HR := Lib.hid hR
        have hq : ((⟨l[k].toArray⟩ : ByteArray).toList == s.toList) = true := by rw [toList_mk, he]; simp
        obtain ⟨tn, htn⟩ : ∃ t : ByteArray, (⟨l[k].toArray⟩ : ByteArray) = t := ⟨_, rfl⟩
        rw [htn] at hc hq
        clear he hR htn
        go_wp2
        go_ret
        exact ⟨ret_bool HR.out.symm, rfl⟩
      · have HD : Hid (∀ x ∈ l.take (k + 1), (s.toList == x) = false) := Lib.hid (fun x hx => by
          rw [List.take_succ_eq_append_getElem hlt'] at hx
          rcases List.mem_append.1 hx with h | h
          · exact HA.out x h
          · rw [List.mem_singleton.1 h]; exact beq_eq_false_iff_ne.2 he)
        have hq : ((⟨l[k].toArray⟩ : ByteArray).toList == s.toList) = false := by rw [toList_mk]; exact beq_eq_false_iff_ne.2 fun e => he e.symm
        obtain ⟨tn, htn⟩ : ∃ t : ByteArray, (⟨l[k].toArray⟩ : ByteArray) = t := ⟨_, rfl⟩
        rw [htn] at hc hq
        clear he htn
        go_wp2
        go_round
        case rel => exact ⟨k + 1, by omega, by go_num, HD.out⟩
        case measure => simp [intOf]; omega
    · have hlti : ¬ ((k : Int) < (n : Int)) := by omega
      have HR : Hid ((l.any fun x => s.toList == x) = false) := Lib.hid (by
        have hall : l.take k = l := List.take_of_length_le (by rw [HN.out]; omega)
        have := HA.out
        rw [hall] at this
        exact List.any_eq_false.2 fun x hx => by rw [this x hx]; exact Bool.false_ne_true)
      go_wp2
      go_ret
      exact ⟨ret_bool HR.out.symm, rfl⟩
end
end Go.Proofs.YthefknoicelhaaaGreatDoor

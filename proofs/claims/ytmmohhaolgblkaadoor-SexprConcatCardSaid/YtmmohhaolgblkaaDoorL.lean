/- The reference's kind of a word. -/
import Derived.Test.YtmmohhaolgblkaaDoorK
namespace Go.Proofs.YtmmohhaolgblkaaDoor
open Go.RowKit

theorem digits_q (s : ByteArray) (w : World) (hs : s.size ≤ maxLen) : Calls Tryd.prog 58 #[.string s] w fun e w' => e = .returned (.bool (digitsF s.data.toList)) ∧ w' = w := (digits_any s w hs).mono fun _ _ h => ⟨h.1, h.2.symm⟩
theorem trim_q (s : ByteArray) (w : World) (hs : s.size ≤ maxLen) : Calls Tryd.prog 59 #[.string s] w fun e w' => e = .returned (.string ⟨(trimF s.data.toList).toArray⟩) ∧ w' = w := (trim_any s w hs).mono fun _ _ h => ⟨h.1, h.2.symm⟩

theorem numeral_eq (l : List UInt8) : Sx.numeral l = (digitsF l && trimF l == l) := by
  rw [Bool.eq_iff_iff]
  simp only [Sx.numeral, digitsF, Bool.and_eq_true, Bool.or_eq_true, beq_iff_eq, bne_iff_ne, ne_eq]
  rw [trimF_eq]
  constructor
  · rintro ⟨ha, h | ⟨h1, h2⟩⟩
    · subst h; exact ⟨⟨ha, by simp⟩, .inl (by simp)⟩
    · exact ⟨⟨ha, h1⟩, .inr (fun e => h2 (UInt8.toNat_inj.1 (by show _ = 48; exact e)))⟩
  · rintro ⟨⟨ha, h1⟩, h | h⟩
    · match l, h1, h with
      | [c], _, _ =>
        by_cases hc : c = 48
        · subst hc; exact ⟨ha, .inl rfl⟩
        · exact ⟨ha, .inr ⟨by simp, hc⟩⟩
      | [], h1, _ => exact absurd rfl h1
      | _ :: _ :: _, _, h => simp at h
    · exact ⟨ha, .inr ⟨h1, fun e => h (by rw [e]; rfl)⟩⟩

theorem not_numeral_point (l : List UInt8) (h : l.contains 46 = true) : Sx.numeral l = false := by
  unfold Sx.numeral
  have : l.all Sx.dig = false := by
    rw [Bool.eq_false_iff]
    intro ha
    have := List.all_eq_true.1 ha 46 (by simpa using h)
    exact absurd this (by decide)
  rw [this]; rfl

theorem contains_at (s : ByteArray) (k : Nat) (h : k < s.size) (hp : s[k].toNat = 46) : s.data.toList.contains 46 = true := by
  have : s[k] = 46 := UInt8.toNat_inj.1 hp
  rw [List.contains_iff_mem]
  rw [← this]
  exact List.mem_of_getElem? (get_data s k h)
theorem upto_at (s : ByteArray) (k : Nat) (h : k < s.size) (ha : (s.data.toList.take k).all (· != 46) = true) (hp : s[k].toNat = 46) : Sx.upto s.data.toList = s.data.toList.take k ∧ Sx.behind s.data.toList = s.data.toList.drop (k + 1) := by
  have h46 : s[k] = 46 := UInt8.toNat_inj.1 hp
  have hall : ∀ a ∈ s.data.toList.take k, (a != 46) = true := List.all_eq_true.1 ha
  have hsplit : s.data.toList = s.data.toList.take k ++ s[k] :: s.data.toList.drop (k + 1) := by rw [← drop_at s k h, List.take_append_drop]
  have h1 : Sx.upto (s.data.toList.take k ++ s[k] :: s.data.toList.drop (k + 1)) = s.data.toList.take k := by
    unfold Sx.upto
    rw [List.takeWhile_append_of_pos hall, List.takeWhile_cons, h46]; simp
  have h2 : Sx.behind (s.data.toList.take k ++ s[k] :: s.data.toList.drop (k + 1)) = s.data.toList.drop (k + 1) := by
    unfold Sx.behind
    rw [List.dropWhile_append_of_pos hall, List.dropWhile_cons, h46]; simp
  rw [← hsplit] at h1 h2
  exact ⟨h1, h2⟩
theorem decimal_at (s : ByteArray) (k : Nat) (h : k < s.size) (ha : (s.data.toList.take k).all (· != 46) = true) (hp : s[k].toNat = 46) :
    Sx.decimal s.data.toList = (digitsF (s.data.toList.take k) && trimF (s.data.toList.take k) == s.data.toList.take k && digitsF (s.data.toList.drop (k + 1))) := by
  obtain ⟨h1, h2⟩ := upto_at s k h ha hp
  unfold Sx.decimal
  rw [contains_at s k h hp, h1, h2, numeral_eq, Bool.true_and]
  unfold digitsF
  cases (s.data.toList.drop (k + 1)) <;> grind

theorem take_rest (s : ByteArray) (k : Nat) : List.take (s.size - (k + 1)) (List.drop (k + 1) s.data.toList) = List.drop (k + 1) s.data.toList :=
  List.take_of_length_le (by rw [List.length_drop, len_data]; omega)

set_option maxHeartbeats 2000000 in
set_option maxRecDepth 100000 in
theorem kindOfWord_any (s : ByteArray) (w : World) (hs : s.size ≤ 65536) (h0 : 0 < s.size) :
    Calls Tryd.prog 43 #[.string s] w fun e w' => e = .returned (.int .i64 (Sx.wkind s.data.toList)) ∧ ∃ n, w' = w.drewN n := by
  have hne : s.data.toList ≠ [] := fun e => by have := len_data s; rw [e] at this; simp at this; omega
  have hh := head_zero s h0
  by_cases hd : Sx.dig s[0] = true
  · have HW : Hid (Sx.wkind s.data.toList = if Sx.numeral s.data.toList then 2 else if Sx.decimal s.data.toList then 3 else 0) := Lib.hid (by unfold Sx.wkind; rw [if_neg hne, hh, if_neg (by simp [hd])])
    have h1 : ¬ (s[0].toNat : Int) < 48 := by simp only [Sx.dig, Bool.and_eq_true, decide_eq_true_eq] at hd; omega
    have h2 : ¬ 57 < (s[0].toNat : Int) := by simp only [Sx.dig, Bool.and_eq_true, decide_eq_true_eq] at hd; omega
    clear hd hh hne
    go_enter Tryd.func43, Tryd.ntmps43
    go_wp2
    go_loop [3] (fun i => ∃ k : Nat, k ≤ s.size ∧ i = .int .i64 k ∧ (s.data.toList.take k).all (· != 46) = true) (fun i => s.size - (intOf i).toNat)
    case atStart => exact ⟨0, Nat.zero_le _, rfl, rfl⟩
    case round =>
      obtain ⟨k, hk, rfl, ha⟩ := hrel
      have HA := Lib.hid ha
      clear ha
      by_cases hlt : k < s.size
      · by_cases hp : s[k].toNat = 46
        · have hp1 : ((s[k].toNat : Int) == 46) = true := by simp [hp]
          have HD := Lib.hid (decimal_at s k hlt HA.out hp)
          have HNN : Hid (Sx.numeral s.data.toList = false) := Lib.hid (not_numeral_point _ (contains_at s k hlt hp))
          clear hp
          have hx0 : (0 : Int) ≤ (k : Int) + 1 := by omega
          have hx1 : ((k : Int) + 1).toNat = k + 1 := by omega
          have hx2 : (k : Int) + 1 ≤ (s.size : Int) := by omega
          have hk0 : (0 : Int) ≤ (k : Int) := by omega
          have hk2 : (k : Int) ≤ (s.size : Int) := by omega
          have he : (s.extract 0 k).toList = List.take k s.data.toList := by rw [ByteArray.toList_eq]; simp
          by_cases hA : digitsF (List.take k s.data.toList) = true
          · by_cases hB : (trimF (List.take k s.data.toList) == (s.extract 0 k).toList) = true
            · have HD2 : Hid (Sx.wkind s.data.toList = if digitsF (List.drop (k + 1) s.data.toList) then 3 else 0) := Lib.hid (by
                rw [he] at hB
                rw [HW.out, HNN.out, HD.out, hA, hB]; simp)
              clear he
              go_wp2
              refine wp_region_quiet_lit (by kernel_rfl) (by kernel_rfl) ?_
              repeat (any_goals (first | go_big_quiet_step ((first | (go_at_call 58; exact Calls.quiet_of_same (digits_q _ _ (by rw [ByteArray.size_extract]; unfold maxLen; omega))) | (go_at_call 59; exact Calls.quiet_of_same (trim_q _ _ (by rw [ByteArray.size_extract]; unfold maxLen; omega))))) | quiet_step (fail)))
              all_goals (refine wpQuiet_nil ?_; intro _ hw'; obtain ⟨nq, hw''⟩ := hw'; subst hw'')
              go_wp2
              · have hx : digitsF (List.take (s.size - (k + 1)) (List.drop (k + 1) s.data.toList)) = true := by assumption
                rw [take_rest] at hx
                go_ret
                exact ⟨ret_int (by rw [HD2.out, hx]; rfl), _, rfl⟩
              · have hx : digitsF (List.take (s.size - (k + 1)) (List.drop (k + 1) s.data.toList)) = false := by assumption
                rw [take_rest] at hx
                go_ret
                exact ⟨ret_int (by rw [HD2.out, hx]; rfl), _, rfl⟩
            · have hB' : (trimF (List.take k s.data.toList) == (s.extract 0 k).toList) = false := by simpa using hB
              have HD2 : Hid (Sx.wkind s.data.toList = 0) := Lib.hid (by
                rw [he] at hB'
                rw [HW.out, HNN.out, HD.out, hA, hB']; simp)
              clear he hB
              go_wp2
              refine wp_region_quiet_lit (by kernel_rfl) (by kernel_rfl) ?_
              repeat (any_goals (first | go_big_quiet_step ((first | (go_at_call 58; exact Calls.quiet_of_same (digits_q _ _ (by rw [ByteArray.size_extract]; unfold maxLen; omega))) | (go_at_call 59; exact Calls.quiet_of_same (trim_q _ _ (by rw [ByteArray.size_extract]; unfold maxLen; omega))))) | quiet_step (fail)))
              all_goals (refine wpQuiet_nil ?_; intro _ hw'; obtain ⟨nq, hw''⟩ := hw'; subst hw'')
              go_wp2
              go_ret
              exact ⟨ret_int (by rw [HD2.out]), _, rfl⟩
          · have hA' : digitsF (List.take k s.data.toList) = false := by simpa using hA
            have HD2 : Hid (Sx.wkind s.data.toList = 0) := Lib.hid (by
                rw [HW.out, HNN.out, HD.out, hA']; simp)
            clear he hA
            go_wp2
            refine wp_region_quiet_lit (by kernel_rfl) (by kernel_rfl) ?_
            repeat (any_goals (first | go_big_quiet_step ((first | (go_at_call 58; exact Calls.quiet_of_same (digits_q _ _ (by rw [ByteArray.size_extract]; unfold maxLen; omega))) | (go_at_call 59; exact Calls.quiet_of_same (trim_q _ _ (by rw [ByteArray.size_extract]; unfold maxLen; omega))))) | quiet_step (fail)))
            all_goals (refine wpQuiet_nil ?_; intro _ hw'; obtain ⟨nq, hw''⟩ := hw'; subst hw'')
            go_wp2
            go_ret
            exact ⟨ret_int (by rw [HD2.out]), _, rfl⟩
        · have hp1 : ((s[k].toNat : Int) == 46) = false := by simp; omega
          have HP := Lib.hid hp
          clear hp
          go_wp2
          go_round
          case rel => exact ⟨k + 1, by omega, by go_num, all_snoc _ s k hlt HA.out (by simp only [bne_iff_ne, ne_eq]; exact fun e => HP.out (by rw [e]; rfl))⟩
          case measure => simp [intOf]; omega
      · have hall := all_end (· != 46) s k hlt HA.out
        have hc : s.data.toList.contains 46 = false := by
          rw [Bool.eq_false_iff]; intro h
          have := List.all_eq_true.1 hall 46 (by simpa using h)
          exact absurd this (by decide)
        have HZ : Hid (Sx.wkind s.data.toList = if digitsF s.data.toList && trimF s.data.toList == s.data.toList then 2 else 0) := Lib.hid (by
          rw [HW.out, numeral_eq]; unfold Sx.decimal; rw [hc]; simp)
        clear hall hc HA HW
        by_cases hA : digitsF s.data.toList = true
        · have HZ2 : Hid (Sx.wkind s.data.toList = if trimF s.data.toList == s.toList then 2 else 0) := Lib.hid (by rw [HZ.out, hA, ByteArray.toList_eq]; simp)
          clear HZ
          go_wp2_with (first | (go_at_call 58; refine (digits_any _ _ (by unfold maxLen; omega)).mono ?_; rintro e w' ⟨rfl, rfl⟩) | (go_at_call 59; refine (trim_any _ _ (by unfold maxLen; omega)).mono ?_; rintro e w' ⟨rfl, rfl⟩))
          · have hx : (trimF s.data.toList == s.toList) = true := by assumption
            go_ret
            exact ⟨ret_int (by rw [HZ2.out, hx]; rfl), 0, rfl⟩
          · have hx : (trimF s.data.toList == s.toList) = false := by assumption
            go_ret
            exact ⟨ret_int (by rw [HZ2.out, hx]; rfl), 0, rfl⟩
        · have hA' : digitsF s.data.toList = false := by simpa using hA
          have HZ2 : Hid (Sx.wkind s.data.toList = 0) := Lib.hid (by rw [HZ.out, hA']; simp)
          clear HZ hA
          go_wp2_with (first | (go_at_call 58; refine (digits_any _ _ (by unfold maxLen; omega)).mono ?_; rintro e w' ⟨rfl, rfl⟩) | (go_at_call 59; refine (trim_any _ _ (by unfold maxLen; omega)).mono ?_; rintro e w' ⟨rfl, rfl⟩))
          go_ret
          exact ⟨ret_int (by rw [HZ2.out]), 0, rfl⟩
  · have hd' : Sx.dig s[0] = false := by simpa using hd
    have HW : Hid (Sx.wkind s.data.toList = 1) := Lib.hid (by unfold Sx.wkind; rw [if_neg hne, hh, if_pos hd'])
    by_cases h1 : (s[0].toNat : Int) < 48
    · clear hd hd' hh
      go_enter Tryd.func43, Tryd.ntmps43
      go_wp2
      go_ret
      exact ⟨ret_int (by rw [HW.out]), 0, rfl⟩
    · have h2 : 57 < (s[0].toNat : Int) := by simp only [Sx.dig, Bool.and_eq_true, decide_eq_true_eq] at hd; omega
      clear hd hd' hh
      go_enter Tryd.func43, Tryd.ntmps43
      go_wp2
      go_ret
      exact ⟨ret_int (by rw [HW.out]), 0, rfl⟩
end Go.Proofs.YtmmohhaolgblkaaDoor

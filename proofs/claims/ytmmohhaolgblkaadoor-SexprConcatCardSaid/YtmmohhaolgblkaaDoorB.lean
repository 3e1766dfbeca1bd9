/- What the functions of whole words answer: for every string. -/
import Derived.Test.YtmmohhaolgblkaaDoorA
import Derived.Lib.Hide
import Derived.Shelf.Strings.SlTrimAscii
import Derived.Lib.IndexBytes
namespace Go.Proofs.YtmmohhaolgblkaaDoor
open Go.RowKit

theorem take_snoc (s : ByteArray) (k : Nat) (h : k < s.size) : s.data.toList.take (k + 1) = s.data.toList.take k ++ [s[k]] := by
  rw [List.take_succ_eq_append_getElem (by simpa using h)]; rfl
theorem all_snoc (p : UInt8 → Bool) (s : ByteArray) (k : Nat) (h : k < s.size) (ha : (s.data.toList.take k).all p = true) (hp : p s[k] = true) : (s.data.toList.take (k + 1)).all p = true := by
  rw [take_snoc s k h, List.all_append, ha]; simp [hp]
theorem all_not (p : UInt8 → Bool) (s : ByteArray) (k : Nat) (h : k < s.size) (hp : ¬ p s[k] = true) : s.data.toList.all p = false := by
  rw [Bool.eq_false_iff]
  intro ha
  exact hp (List.all_eq_true.1 ha _ (by simp [ByteArray.getElem_eq_getElem_data]))
theorem all_end (p : UInt8 → Bool) (s : ByteArray) (k : Nat) (h : ¬ k < s.size) (ha : (s.data.toList.take k).all p = true) : s.data.toList.all p = true := by
  rwa [List.take_of_length_le (by simp; omega)] at ha

theorem len_data (s : ByteArray) : s.data.toList.length = s.size := by rw [Array.length_toList]; rfl
theorem get_data (s : ByteArray) (k : Nat) (h : k < s.size) : s.data.toList[k]? = some s[k] := by
  rw [List.getElem?_eq_getElem (by rw [len_data]; exact h)]; rfl
theorem head_zero (s : ByteArray) (h : 0 < s.size) : s.data.toList.headD 0 = s[0] := by
  rw [List.headD_eq_head?_getD, List.head?_eq_getElem?, get_data s 0 h]; rfl
theorem toList_nil (s : ByteArray) (h : ¬ 0 < s.size) : s.data.toList = [] := by
  have := len_data s
  exact List.length_eq_zero_iff.1 (by omega)
theorem ne48 (c : UInt8) : ((c.toNat : Int) != 48) = (c != 48) := by
  rw [Bool.eq_iff_iff]; simp only [bne_iff_ne, ne_eq]
  constructor
  · intro h e; subst e; exact h rfl
  · intro h e; exact h (UInt8.toNat_inj.1 (by show c.toNat = 48; omega))
theorem num_leaf (s : ByteArray) (h : 0 < s.size) :
    (s.toList == [48] || !s.toList.isEmpty && ((s[0].toNat : Int)) != 48) = (s.data.toList == [48] || s.data.toList != [] && s.data.toList.headD 0 != 48) := by
  rw [head_zero s h, ne48, ByteArray.toList_eq]
  congr 2
  cases s.data.toList <;> rfl

set_option maxHeartbeats 400000 in
theorem isNumeral_any (s : ByteArray) (w : World) (hs : s.size ≤ maxLen) :
    Calls Tryd.prog 65 #[.string s] w fun e w' => e = .returned (.bool (Sx.numeral s.data.toList)) ∧ w = w' := by
  unfold maxLen at hs
  go_enter Tryd.func65, Tryd.ntmps65
  go_wp2
  go_loop [3] (fun i => ∃ k : Nat, k ≤ s.size ∧ i = .int .i64 k ∧ (s.data.toList.take k).all Sx.dig = true) (fun i => s.size - (intOf i).toNat)
  case atStart => exact ⟨0, Nat.zero_le _, rfl, rfl⟩
  case round =>
    obtain ⟨k, hk, rfl, ha⟩ := hrel
    have HA := Lib.hid ha
    clear ha
    by_cases hlt : k < s.size
    · go_wp2_with (go_at_call 63; refine (isDigit_any _ _).mono ?_; rintro e w' ⟨rfl, rfl⟩)
      · have hd : (!Sx.dig s[k]) = true := by assumption
        go_ret
        exact ⟨ret_bool (by unfold Sx.numeral; rw [all_not Sx.dig s k hlt (by simpa using hd)]; rfl), rfl⟩
      · have hd : (!Sx.dig s[k]) = false := by assumption
        go_round
        case rel => exact ⟨k + 1, by omega, by go_num, all_snoc Sx.dig s k hlt HA.out (by simpa using hd)⟩
        case measure => simp [intOf]; omega
    · have hall := Lib.hid (all_end Sx.dig s k hlt HA.out)
      clear HA
      by_cases h0 : 0 < s.size
      · go_wp2
        all_goals go_ret
        all_goals refine ⟨ret_bool ?_, rfl⟩
        all_goals (unfold Sx.numeral; rw [hall.out, Bool.true_and])
        · have h1 : s.toList = [48] := by assumption
          rw [ByteArray.toList_eq] at h1; rw [h1]; rfl
        · have h1 : s.toList = [] := by assumption
          rw [ByteArray.toList_eq] at h1; rw [h1]; rfl
        · exact num_leaf s h0
      · have hn : s.toList = [] := by rw [ByteArray.toList_eq]; exact toList_nil s h0
        go_wp2
        go_ret
        exact ⟨ret_bool (by unfold Sx.numeral; rw [toList_nil s h0]; rfl), rfl⟩

theorem indexByte_cut : ∀ l : List UInt8, (l.contains 46 = true → 0 ≤ Lib.indexByte l 46 ∧ l.take (Lib.indexByte l 46).toNat = Sx.upto l ∧ l.drop ((Lib.indexByte l 46).toNat + 1) = Sx.behind l) ∧ (l.contains 46 = false → Lib.indexByte l 46 = -1) := by
  intro l
  induction l with
  | nil => exact ⟨fun h => by simp at h, fun _ => rfl⟩
  | cons b r ih =>
    obtain ⟨i1, i2⟩ := ih
    by_cases hb : b = 46
    · subst hb
      exact ⟨fun _ => ⟨by simp [Lib.indexByte], by simp [Lib.indexByte, Sx.upto], by simp [Lib.indexByte, Sx.behind]⟩, fun h => by simp at h⟩
    · have hb' : (b == (46 : UInt8)) = false := by simpa using hb
      have hbn : (b != (46 : UInt8)) = true := by simpa using hb
      have hc : (b :: r).contains 46 = r.contains 46 := by
        rw [List.contains_cons]
        rw [show ((46 : UInt8) == b) = false by rw [beq_eq_false_iff_ne]; exact fun e => hb e.symm]
        simp
      rw [hc]
      constructor
      · intro h
        obtain ⟨h0, h1, h2⟩ := i1 h
        have hi : Lib.indexByte (b :: r) 46 = Lib.indexByte r 46 + 1 := by
          have hne : (Lib.indexByte r 46 == -1) = false := by rw [beq_eq_false_iff_ne]; omega
          simp [Lib.indexByte, hb', hne]
        obtain ⟨n, hn⟩ := Int.eq_ofNat_of_zero_le h0
        rw [hi, hn]
        have e1 : ((n : Int) + 1).toNat = n + 1 := by omega
        rw [hn] at h1 h2
        rw [e1]
        simp only [Int.toNat_natCast] at h1 h2
        refine ⟨by omega, ?_, ?_⟩
        · rw [List.take_succ_cons, h1]; unfold Sx.upto; rw [List.takeWhile_cons, hbn]; simp
        · rw [List.drop_succ_cons, h2]; unfold Sx.behind; rw [List.dropWhile_cons, hbn]; simp
      · intro h
        rw [Lib.indexByte, hb', i2 h]; rfl

/-- the shelf's Cut at a point, in words of one's own -/
theorem cut_point (l : List UInt8) : Lib.cut l [46] = if l.contains 46 then (Sx.upto l, Sx.behind l, true) else (l, [], false) := by
  unfold Lib.cut
  rw [Lib.index_one]
  obtain ⟨h1, h2⟩ := indexByte_cut l
  by_cases hc : l.contains 46 = true
  · obtain ⟨a, b, c⟩ := h1 hc
    rw [if_pos a, if_pos hc, b]
    simp only [List.length_singleton, c]
  · have hf : l.contains 46 = false := by simpa using hc
    rw [h2 hf, hf]; rfl

theorem digits_contains (c : UInt8) : ([48, 49, 50, 51, 52, 53, 54, 55, 56, 57] : List UInt8).contains c = Sx.dig c := by
  have := byte_all (fun c => ([48, 49, 50, 51, 52, 53, 54, 55, 56, 57] : List UInt8).contains c == Sx.dig c) (by decide +kernel) c
  exact beq_iff_eq.1 this

theorem dropWhile_nil (p : UInt8 → Bool) (l : List UInt8) : l.dropWhile p = [] ↔ l.all p = true := by
  induction l with
  | nil => simp
  | cons a r ih => by_cases h : p a = true <;> simp [h, ih]

theorem trim_digits (l : List UInt8) : (Lib.trimS l [48, 49, 50, 51, 52, 53, 54, 55, 56, 57] == []) = l.all Sx.dig := by
  have e : (fun c => ([48, 49, 50, 51, 52, 53, 54, 55, 56, 57] : List UInt8).contains c) = Sx.dig := funext digits_contains
  unfold Lib.trimS Lib.trimLeftS Lib.trimRightS
  rw [e, Bool.eq_iff_iff, beq_iff_eq, dropWhile_nil, List.all_reverse]
  constructor
  · intro h
    by_cases hall : l.all Sx.dig = true
    · exact hall
    · exfalso
      have hne : l.reverse.dropWhile Sx.dig ≠ [] := fun hn => hall (by have := (dropWhile_nil _ _).1 hn; rwa [List.all_reverse] at this)
      obtain ⟨a, r, har⟩ := List.exists_cons_of_ne_nil hne
      have hd := List.head?_dropWhile_not Sx.dig l.reverse
      rw [har] at hd h
      simp at hd h
      rw [hd] at h; simp at h
  · intro h
    have : l.reverse.dropWhile Sx.dig = [] := (dropWhile_nil _ _).2 (by rwa [List.all_reverse])
    rw [this]; rfl

theorem upto_len (l : List UInt8) : (Sx.upto l).length ≤ l.length := by
  unfold Sx.upto; exact (List.takeWhile_sublist _).length_le
theorem behind_len (l : List UInt8) : (Sx.behind l).length ≤ l.length := by
  unfold Sx.behind; rw [List.length_drop]
  have := (List.dropWhile_sublist (l := l) (p := (· != 46))).length_le
  omega
theorem size_mk (l : List UInt8) : (ByteArray.mk l.toArray).size = l.length := by show l.toArray.size = _; simp

theorem trim_leaf (b : List UInt8) (hb : ¬ b = []) : (true && b != [] && b.all Sx.dig) = (Lib.trimS b [48, 49, 50, 51, 52, 53, 54, 55, 56, 57]).isEmpty := by
  rw [← trim_digits]
  have : (b != []) = true := by simpa using hb
  rw [this, Bool.true_and, Bool.true_and]
  cases Lib.trimS b [48, 49, 50, 51, 52, 53, 54, 55, 56, 57] <;> rfl

set_option maxHeartbeats 1000000 in
theorem wordKind_any (s : ByteArray) (m : Int) (w : World) (hs : s.size < 4294967281) (hM : w.cell? ⟨0, 0, none⟩ = some (.int .i64 m)) :
    Calls Tryd.prog 56 #[.string s] w fun e w' => e = .returned (.int .i64 (Sx.wkind s.data.toList)) ∧ Below w.heap.size w w' := by
  by_cases h0 : 0 < s.size
  · have hne : s.data.toList ≠ [] := fun e => by have := len_data s; rw [e] at this; simp at this; omega
    have hse : s.toList.isEmpty = false := by rw [ByteArray.toList_eq]; simpa using hne
    have hh := head_zero s h0
    have HC := Lib.hid (cut_point s.data.toList)
    by_cases hd : Sx.dig s[0] = true
    · have hdf : Sx.dig (s.data.toList.headD 0) = false ↔ False := by rw [hh]; simp [hd]
      by_cases hnum : Sx.numeral s.data.toList = true
      · have HW : Hid (Sx.wkind s.data.toList = 2) := Lib.hid (by unfold Sx.wkind; rw [if_neg hne, if_neg (by rw [hdf]; exact id), if_pos hnum])
        clear HC hh hdf
        go_enter Tryd.func56, Tryd.ntmps56
        go_wp2_with (first | (go_at_call 63; refine (isDigit_any _ _).mono ?_; rintro e w' ⟨rfl, rfl⟩) | (go_at_call 65; refine (isNumeral_any _ _ (by unfold maxLen; omega)).mono ?_; rintro e w' ⟨rfl, rfl⟩))
        go_ret
        exact ⟨ret_int (by rw [HW.out]), Below.refl _ _⟩
      · have hnum' : Sx.numeral s.data.toList = false := by simpa using hnum
        have HW : Hid (Sx.wkind s.data.toList = if Sx.decimal s.data.toList then 3 else 0) := Lib.hid (by unfold Sx.wkind; rw [if_neg hne, if_neg (by rw [hdf]; exact id), if_neg hnum])
        clear hh hdf hnum
        by_cases hc : s.data.toList.contains 46 = true
        · have HC' : Hid (Lib.cut s.data.toList [46] = (Sx.upto s.data.toList, Sx.behind s.data.toList, true)) := Lib.hid (by rw [HC.out, if_pos hc])
          have hu := upto_len s.data.toList
          have hb := behind_len s.data.toList
          rw [len_data] at hu hb
          have HD : Hid (Sx.decimal s.data.toList = (Sx.numeral (Sx.upto s.data.toList) && Sx.behind s.data.toList != [] && (Sx.behind s.data.toList).all Sx.dig)) := Lib.hid (by unfold Sx.decimal; rw [hc, Bool.true_and])
          clear HC hc
          generalize hu' : Sx.upto s.data.toList = u at *
          generalize hb' : Sx.behind s.data.toList = b at *
          clear hu' hb'
          by_cases hb0 : b = []
          · go_enter Tryd.func56, Tryd.ntmps56
            go_wp2_with (first
              | (go_at_call 63; refine (isDigit_any _ _).mono ?_; rintro e w' ⟨rfl, rfl⟩)
              | (go_at_call 65; refine (isNumeral_any _ _ (by unfold maxLen; first | omega | (rw [size_mk]; omega))).mono ?_; rintro e w' ⟨rfl, rfl⟩)
              | (go_at_call 66; refine (Tryd.strings_Cut s ⟨#[46]⟩ m _ hs (by assumption)).mono ?_; rintro e w' ⟨rfl, nq, rfl⟩; simp only [HC'.out])
              | (go_at_call 67; refine (Any.strings_Trim_laid Tryd.lays160 (by kernel_rfl) _ ⟨#[48, 49, 50, 51, 52, 53, 54, 55, 56, 57]⟩ _ (by rw [size_mk]; omega) (by decide) (ascii_of_all (by decide))).mono ?_; rintro e w' ⟨rfl, hbw⟩))
            · have hx : Sx.numeral u = true := by assumption
              go_ret
              exact ⟨ret_int (by rw [HW.out, HD.out, hx, hb0]; rfl), below_drewN (Below.refl _ _) _⟩
            · have hx : ¬ Sx.numeral u = true := by assumption
              go_ret
              exact ⟨ret_int (by rw [HW.out, HD.out, Bool.eq_false_iff.2 hx]; rfl), below_drewN (Below.refl _ _) _⟩
          · go_enter Tryd.func56, Tryd.ntmps56
            go_wp2_with (first
              | (go_at_call 63; refine (isDigit_any _ _).mono ?_; rintro e w' ⟨rfl, rfl⟩)
              | (go_at_call 65; refine (isNumeral_any _ _ (by unfold maxLen; first | omega | (rw [size_mk]; omega))).mono ?_; rintro e w' ⟨rfl, rfl⟩)
              | (go_at_call 66; refine (Tryd.strings_Cut s ⟨#[46]⟩ m _ hs (by assumption)).mono ?_; rintro e w' ⟨rfl, nq, rfl⟩; simp only [HC'.out])
              | (go_at_call 67; refine (Any.strings_Trim_laid Tryd.lays160 (by kernel_rfl) _ ⟨#[48, 49, 50, 51, 52, 53, 54, 55, 56, 57]⟩ _ (by rw [size_mk]; omega) (by decide) (ascii_of_all (by decide))).mono ?_; rintro e w' ⟨rfl, hbw⟩))
            · have hx : Sx.numeral u = true := by assumption
              have hy : (!b.isEmpty) = true ∧ (Lib.trimS b [48, 49, 50, 51, 52, 53, 54, 55, 56, 57]).isEmpty = true := by assumption
              go_ret
              exact ⟨ret_int (by rw [HW.out, HD.out, hx, trim_leaf b hb0, hy.2]; rfl), (below_drewN (Below.refl _ _) _).trans hbw⟩
            · have hx : Sx.numeral u = true := by assumption
              have hy : (!b.isEmpty) = false ∨ (Lib.trimS b [48, 49, 50, 51, 52, 53, 54, 55, 56, 57]).isEmpty = false := by assumption
              have hy' : (Lib.trimS b [48, 49, 50, 51, 52, 53, 54, 55, 56, 57]).isEmpty = false := by
                rcases hy with h | h
                · exact absurd (by simpa using h) hb0
                · exact h
              go_ret
              exact ⟨ret_int (by rw [HW.out, HD.out, hx, trim_leaf b hb0, hy']; rfl), (below_drewN (Below.refl _ _) _).trans hbw⟩
            · have hx : ¬ Sx.numeral u = true := by assumption
              go_ret
              exact ⟨ret_int (by rw [HW.out, HD.out, Bool.eq_false_iff.2 hx]; rfl), below_drewN (Below.refl _ _) _⟩
        · have hcf : s.data.toList.contains 46 = false := by simpa using hc
          have HC' : Hid (Lib.cut s.data.toList [46] = (s.data.toList, [], false)) := Lib.hid (by rw [HC.out, if_neg hc])
          have HD : Hid (Sx.decimal s.data.toList = false) := Lib.hid (by unfold Sx.decimal; rw [hcf]; rfl)
          clear HC hc hcf
          go_enter Tryd.func56, Tryd.ntmps56
          go_wp2_with (first
              | (go_at_call 63; refine (isDigit_any _ _).mono ?_; rintro e w' ⟨rfl, rfl⟩)
              | (go_at_call 65; refine (isNumeral_any _ _ (by unfold maxLen; first | omega | (rw [size_mk]; omega))).mono ?_; rintro e w' ⟨rfl, rfl⟩)
              | (go_at_call 66; refine (Tryd.strings_Cut s ⟨#[46]⟩ m _ hs (by assumption)).mono ?_; rintro e w' ⟨rfl, nq, rfl⟩; simp only [HC'.out]))
          go_ret
          exact ⟨ret_int (by rw [HW.out, HD.out]; rfl), below_drewN (Below.refl _ _) _⟩
    · have hd' : Sx.dig s[0] = false := by simpa using hd
      have HW : Hid (Sx.wkind s.data.toList = 1) := Lib.hid (by unfold Sx.wkind; rw [if_neg hne, hh, if_pos hd'])
      clear hd HC hh
      go_enter Tryd.func56, Tryd.ntmps56
      go_wp2_with (go_at_call 63; refine (isDigit_any _ _).mono ?_; rintro e w' ⟨rfl, rfl⟩)
      go_ret
      exact ⟨ret_int (by rw [HW.out]), Below.refl _ _⟩
  · have hn : s.toList = [] := by rw [ByteArray.toList_eq]; exact toList_nil s h0
    have HW : Hid (Sx.wkind s.data.toList = 0) := Lib.hid (by unfold Sx.wkind; rw [toList_nil s h0]; rfl)
    go_enter Tryd.func56, Tryd.ntmps56
    go_wp2
    go_ret
    exact ⟨ret_int (by rw [HW.out]), Below.refl _ _⟩
end Go.Proofs.YtmmohhaolgblkaaDoor

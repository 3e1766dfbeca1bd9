/- The reference's functions of single items, at items that are permitted. -/
import Derived.Test.YtmmohhaolgblkaaDoorAN
import Derived.Test.YtmmohhaolgblkaaDoorAP
namespace Go.Proofs.YtmmohhaolgblkaaDoor
open Go.RowKit

theorem For.vt {d : Nat} {its : List It} {ts : List (List UInt8)} (h : For d its ts) (hd : d ≤ 256) :
    ∃ E X, Vd its E ∧ Lay d 0 its E ts.length ∧ (∀ j ∈ trail E 0 its.length, Tree its E X d j ∧ E.getD j 0 ≤ its.length) ∧ (trail E 0 its.length).map (fun j => X.getD j []) = ts := by
  obtain ⟨El, Tl, h1, h2⟩ := h.bush its.length [] [] rfl (by simp)
  rw [List.append_nil, List.append_nil] at h1
  rw [List.length_nil, Nat.sub_zero, Nat.sub_self] at h2
  obtain ⟨E, hV, hL⟩ := h.vd hd
  have he : endsF its.length (its.map It.kids) = some E := by
    have := hV.chk
    unfold checkF at this
    rw [h.permitted, if_pos rfl] at this; exact this
  obtain rfl : El = E := Option.some.inj (h1.symm.trans he)
  obtain ⟨t1, t2⟩ := h2.trees its El Tl [] [] [] hV.up (by simp) (by simp) (by simp) (by omega)
  rw [Nat.zero_add] at t1 t2
  exact ⟨El, Tl, hV, hL, t1, t2⟩

set_option maxHeartbeats 400000 in
set_option maxRecDepth 100000 in
theorem word_any (s : ByteArray) (w : World) (hs : s.size ≤ 65536) (hw : s.data.toList.all Sx.wb = true) (h0 : 0 < s.size) :
    Calls Tryd.prog 60 #[.string s] w fun e w' => e = .returned (.bool true) ∧ w' = w := by
  have hne : s.toList.isEmpty = false := by
    rw [ByteArray.toList_eq]
    cases e : s.data.toList with
    | nil => have := len_data s; rw [e] at this; simp at this; omega
    | cons c r => rfl
  have HW := Lib.hid hw
  clear hw
  go_enter Tryd.func60, Tryd.ntmps60
  go_wp2
  go_loop [3] (fun i => ∃ k : Nat, k ≤ s.size ∧ i = .int .i64 k) (fun i => s.size - (intOf i).toNat)
  case atStart => exact ⟨0, Nat.zero_le _, rfl⟩
  case round =>
    obtain ⟨k, hk, rfl⟩ := hrel
    by_cases hlt : k < s.size
    · have hb : Sx.wb s[k] = true := List.all_eq_true.1 HW.out _ (List.mem_of_getElem? (get_data s k hlt))
      go_wp2_with (go_at_call 42; refine (wordByte_any _ _).mono ?_; rintro e w' ⟨rfl, rfl⟩)
      go_round
      case rel => exact ⟨k + 1, by omega, by go_num⟩
      case measure => simp [intOf]; omega
    · go_wp2
      go_ret
      exact ⟨rfl, rfl⟩

set_option maxHeartbeats 2000000 in
set_option maxRecDepth 100000 in
theorem validItem_leaf (kind pos : Int) (text : ByteArray) (w : World) (hk : leafOk kind text.data.toList = true) (hs : text.size ≤ 65536) :
    Calls Tryd.prog 49 #[.agg #[.int .i64 kind, .string text, .int .i64 0, .int .i64 pos]] w fun e w' => e = .returned (.bool true) ∧ Below w.heap.size w w' := by
  unfold leafOk at hk
  simp only [Bool.or_eq_true, Bool.and_eq_true, beq_iff_eq] at hk
  have hbl : Below w.heap.size w (w.alloc (.cells #[.int .i64 kind, .string text, .int .i64 0, .int .i64 pos] 31)) := (Below.refl _ _).alloc (Nat.le_refl _) _
  have HB := Lib.hid hbl
  clear hbl
  rcases hk with ⟨rfl, hp⟩ | ⟨⟨hk, h1⟩, h2⟩
  · have HP := Lib.hid hp
    clear hp
    go_enter Tryd.func49, Tryd.ntmps49
    go_wp2
    go_loop [3] (fun i => ∃ k : Nat, k ≤ text.size ∧ i = .int .i64 k) (fun i => text.size - (intOf i).toNat)
    case atStart => exact ⟨0, Nat.zero_le _, rfl⟩
    case round =>
      obtain ⟨k, hk, rfl⟩ := hrel
      by_cases hlt : k < text.size
      · have hb := List.all_eq_true.1 HP.out _ (List.mem_of_getElem? (get_data text k hlt))
        simp only [Bool.and_eq_true, decide_eq_true_eq] at hb
        have hb1 : ¬ (text[k].toNat : Int) < 32 := by omega
        have hb2 : ¬ 126 < (text[k].toNat : Int) := by omega
        clear hb
        go_wp2
        go_round
        case rel => exact ⟨k + 1, by omega, by go_num⟩
        case measure => simp [intOf]; omega
      · go_wp2
        go_ret
        exact ⟨rfl, HB.out⟩
  · have hne : 0 < text.size := by
      rcases Nat.eq_zero_or_pos text.size with h0 | h0
      · exfalso
        have : text.data.toList = [] := List.length_eq_zero_iff.1 ((len_data text).trans h0)
        rw [this] at h2
        have : (0 : Int) = kind := h2
        omega
      · exact h0
    have H1 := Lib.hid h1
    have H2 := Lib.hid h2
    have hwd : ∀ w, Calls Tryd.prog 60 #[.string text] w fun e w' => e = .returned (.bool true) ∧ w' = w := fun w => word_any text w hs H1.out hne
    have hkd : ∀ w, Calls Tryd.prog 43 #[.string text] w fun e w' => e = .returned (.int .i64 kind) ∧ ∃ n, w' = w.drewN n := fun w => by have := kindOfWord_any text w hs hne; rw [H2.out] at this; exact this
    have HW := Lib.hid hwd
    have HK := Lib.hid hkd
    have h5 : (kind != 5) = true := by simp; omega
    have h5b : (kind == 5) = false := by simp; omega
    clear h1 h2 hwd hkd
    go_enter Tryd.func49, Tryd.ntmps49
    rcases hk with (rfl | rfl) | rfl
    all_goals
      go_wp2_with fail
      go_quiet ((first | (go_at_call 60; exact Calls.quiet_of_same (HW.out _)) | (go_at_call 43; exact Calls.quiet_of (HK.out _))))
      go_wp2
      go_ret
      exact ⟨rfl, below_drewN HB.out _⟩
end Go.Proofs.YtmmohhaolgblkaaDoor

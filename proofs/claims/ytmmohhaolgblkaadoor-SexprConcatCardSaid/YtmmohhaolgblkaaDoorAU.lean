/- The reference's formatItem over a valid list. -/
import Derived.Test.YtmmohhaolgblkaaDoorAT
import Derived.Test.YtmmohhaolgblkaaDoorW
namespace Go.Proofs.YtmmohhaolgblkaaDoor
open Go.RowKit

theorem ba_app (a b : List UInt8) : (⟨a.toArray⟩ : ByteArray) ++ ⟨b.toArray⟩ = ⟨(a ++ b).toArray⟩ := by
  apply ByteArray.ext
  rw [ByteArray.data_append]
  apply Array.toList_inj.1
  simp
theorem quoted_take (s : ByteArray) (k : Nat) (h : k < s.size) : quoted (s.data.toList.take (k + 1)) = quoted (s.data.toList.take k) ++ (if s[k].toNat = 34 then [34, 34] else [s[k]]) := by
  rw [List.take_add_one, get_data s k h]
  simp [quoted]
theorem quoted_len (l : List UInt8) : (quoted l).length ≤ 2 * l.length := by
  induction l with
  | nil => simp [quoted]
  | cons c r ih =>
    have e : quoted (c :: r) = (if c.toNat = 34 then [34, 34] else [c]) ++ quoted r := rfl
    rw [e, List.length_append, List.length_cons]
    split
    · simp only [List.length_cons, List.length_nil]; omega
    · simp only [List.length_cons, List.length_nil]; omega

set_option maxHeartbeats 2000000 in
set_option maxRecDepth 100000 in
theorem formatItem_any (g cap : Nat) (its : List It) (E : List Nat) (X : List (List UInt8)) (hE : ∀ j, j < its.length → j < E.getD j 0) : ∀ (d i : Nat), Tree its E X d i → d ≤ 256 → (X.getD i []).length ≤ 100000 → ∀ w, Ls w g its →
    Calls Tryd.prog 28 #[.slice (some ⟨g, 0, none⟩) its.length cap, .int .i64 i] w fun e w' => e = .returned (.string ⟨(X.getD i []).toArray⟩) ∧ Below w.heap.size w w' := by
  intro d i h
  induction h with
  | @leaf d i kind pos text hi hk he hx =>
    intro hd hlen w hL
    have hin : i < its.length := (List.getElem?_eq_some_iff.1 hi).1
    obtain ⟨c0, c1, c2, c3⟩ := hL.get hi
    simp only at c0 c1 c2 c3
    have hts := hL.texts _ (List.mem_of_getElem? hi)
    simp only at hts
    have hfew := hL.few
    have g2 : (i : Int) < (its.length : Int) := by omega
    have g3 : (0 : Int) ≤ (i : Int) := by omega
    have HX := Lib.hid hx
    have HB : Hid (Below w.heap.size w (w.alloc (.cells #[.int .i64 kind, .string text, .int .i64 0, .int .i64 pos] 31))) := Lib.hid ((Below.refl _ _).alloc (Nat.le_refl _) _)
    have hk5 : kind ≠ 5 := by
      intro e; subst e
      simp [leafOk] at hk
    clear hL hi hk he hx hlen hE
    by_cases h4 : kind = 4
    · subst h4
      go_enter Tryd.func28, Tryd.ntmps28
      go_wp2
      go_loop [6, 7] (fun sv kv => ∃ k : Nat, k ≤ text.size ∧ kv = .int .i64 k ∧ sv = .string ⟨(quoted (text.data.toList.take k)).toArray⟩) (fun _ kv => text.size - (intOf kv).toNat)
      case atStart => exact ⟨0, Nat.zero_le _, rfl, rfl⟩
      case round =>
        obtain ⟨k, hk, rfl, rfl⟩ := hrel
        have hql := quoted_len (text.data.toList.take k)
        rw [List.length_take, len_data] at hql
        by_cases hlt : k < text.size
        · have HQ := Lib.hid (quoted_take text k hlt)
          have HXo := Lib.hid (extract_one text k hlt)
          by_cases h34 : text[k].toNat = 34
          · have hb1 : ((text[k].toNat : Int) == 34) = true := by simp [h34]
            have HC : Hid (text[k] = 34) := Lib.hid (UInt8.toNat_inj.1 h34)
            have HQ2 : Hid (quoted (text.data.toList.take (k + 1)) = quoted (text.data.toList.take k) ++ [34, 34]) := Lib.hid (by rw [HQ.out, if_pos h34])
            clear h34 HQ
            go_wp2
            go_round
            case rel => exact ⟨k + 1, by omega, by go_num, by
              rw [HXo.out, HC.out, HQ2.out]
              exact congrArg Value.string (by rw [show (⟨#[34]⟩ : ByteArray) = ⟨([34] : List UInt8).toArray⟩ from rfl, ba_app, ba_app]; simp)⟩
            case measure => simp [intOf]; omega
          · have hb1 : ((text[k].toNat : Int) == 34) = false := by simp; omega
            have HQ2 : Hid (quoted (text.data.toList.take (k + 1)) = quoted (text.data.toList.take k) ++ [text[k]]) := Lib.hid (by rw [HQ.out, if_neg h34])
            clear h34 HQ
            go_wp2
            go_round
            case rel => exact ⟨k + 1, by omega, by go_num, by
              rw [HXo.out, HQ2.out]
              exact congrArg Value.string (by rw [show (⟨#[text[k]]⟩ : ByteArray) = ⟨([text[k]] : List UInt8).toArray⟩ from rfl, ba_app])⟩
            case measure => simp [intOf]; omega
        · have HT : Hid (text.data.toList.take k = text.data.toList) := Lib.hid (List.take_of_length_le (by rw [len_data]; omega))
          go_wp2
          go_ret
          refine ⟨ret_str ?_, HB.out⟩
          have e := HX.out
          rw [List.getD_eq_getElem?_getD] at e
          rw [e, HT.out, leafText, if_pos rfl]
          rw [show (⟨#[34]⟩ : ByteArray) = ⟨([34] : List UInt8).toArray⟩ from rfl, ba_app, ba_app]
          simp
    · have h4b : (kind == 4) = false := by simp; omega
      have h5b : (kind == 5) = false := by simp; omega
      have h4n := Lib.hid h4
      clear h4 hk5
      go_enter Tryd.func28, Tryd.ntmps28
      go_wp2
      go_ret
      refine ⟨ret_str ?_, HB.out⟩
      rw [HX.out, leafText, if_neg h4n.out, mk_toList]
  | @list d i k pos hi hl hs hb he hx ih =>
    intro hd hlen w hL
    have hin : i < its.length := (List.getElem?_eq_some_iff.1 hi).1
    obtain ⟨c0, c1, c2, c3⟩ := hL.get hi
    simp only at c0 c1 c2 c3
    have hfew := hL.few
    have g2 : (i : Int) < (its.length : Int) := by omega
    have g3 : (0 : Int) ≤ (i : Int) := by omega
    have hkn : k ≤ its.length := by
      have := trail_len E (i + 1) (E.getD i 0)
      rw [hl] at this; omega
    have HB : Hid (Below w.heap.size w (w.alloc (.cells #[.int .i64 5, .string ⟨#[]⟩, .int .i64 k, .int .i64 pos] 31))) := Lib.hid ((Below.refl _ _).alloc (Nat.le_refl _) _)
    have hkd := refKids_any g cap its E X hE d i k (E.getD i 0) pos (by omega) hi hl hs hb he _ (hL.below HB.out)
    obtain ⟨us, hus⟩ : ∃ us, (trail E (i + 1) (E.getD i 0)).map (fun j => X.getD j []) = us := ⟨_, rfl⟩
    rw [hus] at hx
    have hjl : (joined us).length ≤ 100000 := by
      rw [hx] at hlen
      simp only [listText, List.length_cons, List.length_append] at hlen
      omega
    obtain ⟨T, hT⟩ : ∃ T, trail E (i + 1) (E.getD i 0) = T := ⟨_, rfl⟩
    rw [hT] at hkd hl hus ih
    have HLs := Lib.hid hL
    have HH := Lib.hid (And.intro hl (And.intro hus (And.intro hx ih)))
    clear hL hi hl hs hb he hx ih hus hlen hT hE
    go_enter Tryd.func28, Tryd.ntmps28
    go_wp2_with fail
    refine hkd.mono ?_
    rintro e w1 ⟨v, rfl, hown, hb1⟩
    obtain ⟨av, cv, hv⟩ := ownsRow_len hown
    subst hv
    have HO := Lib.hid hown
    have HB1 := Lib.hid (HB.out.trans (hb1.mono HB.out.size))
    have HO1 := Lib.hid hown.lt
    clear hkd hown hb1
    go_wp2_with fail
    go_loopw [6, 9] (fun sv jv wr => ∃ q : Nat, q ≤ k ∧ jv = .int .i64 q ∧ sv = .string ⟨(joined (us.take q)).toArray⟩ ∧ Below w1.heap.size w1 wr) (fun _ jv _ => k - (intOf jv).toNat)
    case atStart => exact ⟨0, Nat.zero_le _, rfl, by rw [List.take_zero]; rfl, Below.refl _ _⟩
    case round =>
      obtain ⟨q, hq, rfl, rfl, hbel⟩ := hrel
      have HBl := Lib.hid hbel
      have HBw := Lib.hid (HB1.out.trans (hbel.mono HB1.out.size))
      have hjq := joined_mono us q
      have hszl : (joined (us.take q)).length ≤ 100000 := by omega
      clear hbel hjq
      by_cases hlt : q < k
      · have hTq : q < T.length := by rw [HH.out.1]; exact hlt
        obtain ⟨e, hqe⟩ : ∃ e, T[q]? = some e := ⟨_, List.getElem?_eq_getElem hTq⟩
        have huq : us[q]? = some (X.getD e []) := by rw [← HH.out.2.1, List.getElem?_map, hqe]; rfl
        have hml := joined_mem us _ (List.mem_of_getElem? huq)
        have hih := HH.out.2.2.2 e (List.mem_of_getElem? hqe) (by omega) (by omega) wr (HLs.out.below HBw.out)
        have HJ := Lib.hid (joined_take us q _ huq)
        obtain ⟨gk, ck, hvk, hgk, _⟩ := ownsRow_shape HO.out (by omega)
        cases hvk
        have hcq : wr.cell? ⟨gk, q, none⟩ = some (.int .i64 e) := by
          refine (HBl.out.cell (p := ⟨gk, q, none⟩) (HO1.out gk rfl).2).trans ?_
          rw [HO.out.cellAt q (by omega)]; simp [ints, hqe]
        clear hqe huq
        generalize X.getD e [] = t at *
        by_cases hq0 : q = 0
        · have hqp : ¬ (0 : Int) < (q : Int) := by omega
          have HJ2 : Hid (joined (us.take (q + 1)) = t) := Lib.hid (by rw [HJ.out, if_pos hq0]; rfl)
          have HZ : Hid (joined (us.take q) = []) := Lib.hid (by rw [hq0]; rfl)
          clear HJ hq0
          go_wp2_with (go_at_call 28; refine hih.mono ?_; rintro e w2 ⟨rfl, hb2⟩)
          go_roundw
          case rel => exact ⟨q + 1, by omega, by go_num, by
            rw [HJ2.out, HZ.out]
            exact congrArg Value.string (ba_app [] t), HBl.out.trans (hb2.mono HBl.out.size)⟩
          case measure => simp [intOf]; omega
        · have hqp : (0 : Int) < (q : Int) := by omega
          have HJ2 : Hid (joined (us.take (q + 1)) = joined (us.take q) ++ [32] ++ t) := Lib.hid (by rw [HJ.out, if_neg hq0])
          clear HJ
          go_wp2_with (go_at_call 28; refine hih.mono ?_; rintro e w2 ⟨rfl, hb2⟩)
          go_roundw
          case rel => exact ⟨q + 1, by omega, by go_num, by
            rw [HJ2.out]
            exact congrArg Value.string (by rw [show (⟨#[32]⟩ : ByteArray) = ⟨([32] : List UInt8).toArray⟩ from rfl, ba_app, ba_app]), HBl.out.trans (hb2.mono HBl.out.size)⟩
          case measure => simp [intOf]; omega
      · have HT : Hid (us.take q = us) := Lib.hid (List.take_of_length_le (by rw [← HH.out.2.1, List.length_map, HH.out.1]; omega))
        go_wp2
        go_ret
        refine ⟨ret_str ?_, HBw.out⟩
        rw [HH.out.2.2.1, HT.out, listText]
        rw [show (⟨#[40]⟩ : ByteArray) = ⟨([40] : List UInt8).toArray⟩ from rfl, show (⟨#[41]⟩ : ByteArray) = ⟨([41] : List UInt8).toArray⟩ from rfl, ba_app, ba_app]
        simp
end Go.Proofs.YtmmohhaolgblkaaDoor

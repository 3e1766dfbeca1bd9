/- The choices' lists of items: the walk of an item that is no list. -/
import Derived.Test.YtmmohhaolgblkaaDoorAG
namespace Go.Proofs.YtmmohhaolgblkaaDoor
open Go.RowKit

theorem tab_cell {w : World} {b : Nat} {cs : Array Value} {t : TypeId} {fr : Nat × Nat} (hb : w.heap[b]? = some (.cells cs t fr)) (r : Nat) : w.cell? ⟨b, r, none⟩ = cs[r]? := by
  simp [World.cell?, hb]
def strTab : Array Value := #[.string ⟨#[]⟩, .string ⟨#[120, 32, 121]⟩, .string ⟨#[34]⟩, .string ⟨#[97, 34, 34, 98]⟩, .string ⟨#[40, 59, 41]⟩]
def symTab : Array Value := #[.string ⟨#[97]⟩, .string ⟨#[61, 62]⟩, .string ⟨#[60, 61]⟩, .string ⟨#[43]⟩, .string ⟨#[45]⟩, .string ⟨#[102, 46, 49]⟩, .string ⟨#[120, 33, 50]⟩, .string ⟨#[63]⟩, .string ⟨#[58, 107]⟩, .string ⟨#[126]⟩, .string ⟨#[95, 65, 57]⟩]
def okText (kind : Int) (v : Option Value) : Bool := match v with | some (.string t) => leafOk kind t.data.toList && decide ((leafText kind t.data.toList).length ≤ 12) && decide (t.size ≤ 100) | _ => false
theorem okText_of {kind : Int} {v : Option Value} (h : okText kind v = true) : ∃ t, v = some (.string t) ∧ leafOk kind t.data.toList = true ∧ (leafText kind t.data.toList).length ≤ 12 ∧ t.size ≤ 100 := by
  unfold okText at h
  split at h
  · simp only [Bool.and_eq_true, decide_eq_true_eq] at h; exact ⟨_, rfl, h.1.1, h.1.2, h.2⟩
  · cases h
theorem strTab_ok (r : Nat) (h : r < 5) : ∃ t, strTab[r]? = some (.string t) ∧ leafOk 4 t.data.toList = true ∧ (leafText 4 t.data.toList).length ≤ 12 ∧ t.size ≤ 100 :=
  okText_of (List.all_eq_true.1 (show (List.range 5).all (fun r => okText 4 strTab[r]?) = true by decide +kernel) r (by simpa using h))
theorem symTab_ok (r : Nat) (h : r < 11) : ∃ t, symTab[r]? = some (.string t) ∧ leafOk 1 t.data.toList = true ∧ (leafText 1 t.data.toList).length ≤ 12 ∧ t.size ≤ 100 :=
  okText_of (List.all_eq_true.1 (show (List.range 11).all (fun r => okText 1 symTab[r]?) = true by decide +kernel) r (by simpa using h))

theorem dec_text (a b : Nat) : (⟨(decN a).toArray⟩ ++ ⟨#[46]⟩ ++ ⟨(decN b).toArray⟩ : ByteArray) = ⟨(decN a ++ 46 :: decN b).toArray⟩ := by
  apply ByteArray.ext
  rw [ByteArray.data_append, ByteArray.data_append]
  apply Array.toList_inj.1
  simp
/-- one more choice, behind a block that was made -/
def NextAt (C : Nat) (ao : Option Addr) (n cap : Nat) (w w1 : World) (k : Nat) : Prop :=
  Calls Tryd.prog 30 #[.pointer (some ⟨C, 0, none⟩), .int .i64 k] w1 fun e w' => ∃ r : Nat, r < k ∧ e = .returned (.int .i64 r) ∧ Ch C ao n cap w' ∧ w.grownBy w' (some C) ∧ (∀ b, b < w1.heap.size → b ≠ C → w'.heap[b]? = w1.heap[b]?) ∧ w'.heap.size = w1.heap.size
theorem nextAt {C : Nat} {ao : Option Addr} {n cap : Nat} {w w1 : World} (k : Nat) (hk : 1 ≤ k) (hk2 : k ≤ 10000000) (h : Ch C ao n cap w1) (hg : w.grownBy w1 (some C)) : NextAt C ao n cap w w1 k :=
  (next_any C ao n cap w1 k hk hk2 h).mono fun _ _ ⟨r, hr, he, hc, hgr, hz⟩ => ⟨r, hr, he, hc, grown_trans hg hgr, fun b hb hbc => hgr.block b hb (fun e => hbc (Option.some.inj e)), hz⟩

theorem flat_one (l : List It) : ∀ u ∈ flat l, u.oneCell' = true := by
  intro u hu
  simp only [flat, List.mem_flatMap] at hu
  obtain ⟨x, _, hx⟩ := hu
  simp [It.cells] at hx
  rcases hx with rfl | rfl | rfl | rfl <;> rfl
theorem flat_set2 (k j p : Int) (t : ByteArray) (its its3 : List It) (q : Int) : (flat (⟨k, t, j, p⟩ :: its) ++ flat its3).set 2 (.int .i64 q) = flat (⟨k, t, q, p⟩ :: (its ++ its3)) := by
  simp [flat, It.cells]
theorem flat_two (k j p : Int) (t : ByteArray) (its its3 : List It) : (flat (⟨k, t, j, p⟩ :: its) ++ flat its3)[2]? = some (.int .i64 j) := by
  simp [flat, It.cells]
theorem kept_but {w w1 : World} {C b e z n : Nat} {v : Value} {xs : List Value} (h : w.ownsRow b e z v n xs) (hg : w.grownBy w1 (some C)) (hC : C < b) : w1.ownsRow b e z v n xs := by
  refine h.kept hg ?_
  cases hv : v.ownBlock with
  | none => exact .inl rfl
  | some g => exact .inr (fun e => by cases e; have := (h.lt C hv).1; omega)

set_option maxHeartbeats 4000000 in
set_option maxRecDepth 100000 in
theorem items_any (d : Nat) : d ≤ 4 → ∀ (C : Nat) (ao : Option Addr) (n cap : Nat) (w : World), Ch C ao n cap w →
    Calls Tryd.prog 31 #[.pointer (some ⟨C, 0, none⟩), .int .i64 d] w (ItemsPost C ao n cap d w) := by
  obtain ⟨ti, hti, hz0, hz1, hz2⟩ := info_parts infoItem
  induction d using Nat.strongRecOn with
  | _ d ih =>
    intro hd4 C ao n cap w hch
    have hnx := next_any C ao n cap w 8 (by omega) (by omega) hch
    have hCw := hch.lt
    go_enter Tryd.func31, Tryd.ntmps31
    go_wp2_with fail
    refine hnx.mono ?_
    rintro e w1 ⟨r, hr, rfl, h1, hg, hz⟩
    have HG := Lib.hid hg
    have H1 := Lib.hid h1
    have hsz := hg.size
    have hCl := h1.lt
    clear hg h1 hz hnx hch
    by_cases hL : r < 3 ∧ 0 < d
    · obtain ⟨d, rfl⟩ : ∃ d', d = d' + 1 := ⟨d - 1, by omega⟩
      have hr3 : (r : Int) < 3 := by omega
      have hdp : (0 : Int) < ((d : Int) + 1) := by omega
      have hnx2 := nextAt 4 (by omega) (by omega) (H1.out.alloc (.cells (It.cells ⟨5, ⟨#[]⟩, 0, 0⟩).toArray 31)) (grown_alloc HG.out (.cells (It.cells ⟨5, ⟨#[]⟩, 0, 0⟩).toArray 31))
      have hrow := one_row w1 ⟨5, ⟨#[]⟩, 0, 0⟩ w.heap.size hsz
      clear hL
      go_wp2_with fail
      refine hnx2.mono ?_
      rintro e w2 ⟨r2, hr2, rfl, h2, hg2, hbk, hz2⟩
      have HRow : Hid (w2.ownsRow w.heap.size 31 4 (.slice (some ⟨w1.heap.size, 0, none⟩) 1 1) 1 (flat [⟨5, ⟨#[]⟩, 0, 0⟩])) := Lib.hid (by
        obtain ⟨hl, hx | ⟨g, cp, cur, hv, hb, hh, rest⟩⟩ := hrow
        · cases hx.1
        · cases hv
          exact ⟨hl, .inr ⟨_, _, cur, rfl, hb, (hbk _ (by simp) (by omega)).trans hh, rest⟩⟩)
      have H2 := Lib.hid h2
      have HG2 := Lib.hid hg2
      have hNB := NB_le hd4
      have hNB2 := NB_le (show d ≤ 4 by omega)
      clear hrow hnx2 hbk hz2 h2 hg2
      go_wp2_with fail
      go_loopw [6, 7] (fun l cnt wr => ∃ (j : Nat) (sub : List It) (us : List (List UInt8)), j ≤ r2 ∧ cnt = .int .i64 ((r2 - j : Nat) : Int) ∧ For d sub us ∧ us.length = j ∧ (∀ u ∈ us, u.length ≤ TB d) ∧ sub.length ≤ j * NB d ∧ (∀ x ∈ sub, x.text.size ≤ 100) ∧ wr.ownsRow w.heap.size 31 4 l (sub.length + 1) (flat (⟨5, ⟨#[]⟩, j, 0⟩ :: sub)) ∧ Ch C ao n cap wr ∧ w.grownBy wr (some C))
        (fun _ cnt _ => (intOf cnt).toNat)
      case atStart => exact ⟨0, [], [], Nat.zero_le _, rfl, .nil d, rfl, by simp, by simp, by simp, HRow.out, H2.out, HG2.out⟩
      case round =>
        obtain ⟨j, sub, us, hj, rfl, hF, hul, hus, hsl, hst, hown, hch3, hg3⟩ := hrel
        have HF := Lib.hid hF
        have HU := Lib.hid hus
        have HS := Lib.hid hst
        have HO := Lib.hid hown
        have HC := Lib.hid hch3
        have HG3 := Lib.hid hg3
        have hjN : j * NB d ≤ 3 * NB d := Nat.mul_le_mul_right _ (by omega)
        have hjN1 : (j + 1) * NB d = j * NB d + NB d := Nat.succ_mul _ _
        have hsz3 := hg3.size
        clear hF hus hst hown hch3 hg3
        by_cases hlt : j < r2
        · have hih := ih d (by omega) (by omega) C ao n cap wr HC.out
          have hcp : (0 : Int) < ((r2 - j : Nat) : Int) := by omega
          go_wp2_with fail
          refine hih.mono ?_
          rintro e w3 ⟨v3, its3, t3, rfl, M⟩
          have h1i := M.tree.one_ne
          obtain ⟨g3, c3, rfl, hg3, hc3⟩ := ownsRow_shape M.row h1i
          have hO3 := Lib.hid (kept_but HO.out M.grown hCw)
          have hG4 := Lib.hid (grown_trans HG3.out M.grown)
          have hfew := M.few
          have hsz4 := M.grown.size
          have HM := Lib.hid M
          clear M hih hc3
          go_wp2_with (at_builtin; refine wpList_append_own _ rfl (.tmp 25) (.tmp 29) 26 rfl w.heap.size 31 ti _ 4 40 Tryd.underlying26 hti hz0 hz1 hz2 rfl (by decide) _ (sub.length + 1) _ rfl hO3.out ⟨g3, 0, none⟩ its3.length c3 (flat its3) rfl (flat_len its3) (HM.out.row.cells rfl) (flat_one its3) (by unfold maxLen; omega) (by omega) (by omega) ?_)
          intro v' w4 hown4 hgrow4 _
          obtain ⟨g', cap', rfl, hg', _⟩ := ownsRow_shape hown4 (by omega)
          have hc2 : w4.cell? ⟨g', 2, none⟩ = some (.int .i64 j) := by rw [hown4.cellAt 2 (by omega), flat_two]
          have hf2 : w4.frozen? ⟨g', 2, none⟩ = false := hown4.frozenAt _
          have hlt3 := hO3.out.lt
          have HCh := Lib.hid ((HM.out.ch.grown hgrow4 (fun k hk => by have := (hlt3 k hk).1; omega)).grown (grown_setCell (grown_refl w4 (some g')) 2 (.int .i64 ((j : Int) + 1))) (fun k hk => by cases hk; omega))
          have HGr := Lib.hid (grown_new (grown_of hG4.out hgrow4 (fun k hk => .inl (hlt3 k hk).1)) hg' 2 (.int .i64 ((j : Int) + 1)))
          have HRo : Hid ((w4.setCell ⟨g', 2, none⟩ (.int .i64 ((j : Int) + 1))).ownsRow w.heap.size 31 4 (.slice (some ⟨g', 0, none⟩) (sub.length + 1 + its3.length) cap') ((sub ++ its3).length + 1) (flat (⟨5, ⟨#[]⟩, ((j + 1 : Nat) : Int), 0⟩ :: (sub ++ its3)))) := Lib.hid (by
            have e : sub.length + 1 + its3.length = (sub ++ its3).length + 1 := by rw [List.length_append]; omega
            rw [← e, Int.natCast_succ, ← flat_set2 5 j 0 ⟨#[]⟩ sub its3]
            exact (hown4.stored 2 _).1)
          clear hown4 hgrow4 hlt3
          go_wp2
          go_roundw
          case rel => exact ⟨j + 1, sub ++ its3, us ++ [t3], hlt, congrArg (Value.int .i64) (by omega), HF.out.append HM.out.tree, by rw [List.length_append, hul]; rfl,
            fun u hu => by rw [List.mem_append] at hu; rcases hu with h | h; exact HU.out u h; rw [List.mem_singleton] at h; rw [h]; exact HM.out.short,
            by rw [List.length_append]; omega,
            fun x hx => by rw [List.mem_append] at hx; rcases hx with h | h; exact HS.out x h; exact HM.out.texts x h,
            HRo.out, HCh.out, HGr.out⟩
          case measure => simp [intOf]; omega
        · have hjr : j = r2 := by omega
          subst hjr
          have hz0 : ¬ (0 : Int) < ((j - j : Nat) : Int) := by omega
          have HM : Hid (Made C ao n cap (d + 1) w wr _ (⟨5, ⟨#[]⟩, us.length, 0⟩ :: (sub ++ [])) (listText us)) := Lib.hid
            ⟨.list HF.out (.nil _), by simp [NB]; omega, listText_len HU.out (by omega), fun x hx => by
              simp only [List.append_nil, List.mem_cons] at hx
              rcases hx with rfl | h
              · exact Nat.zero_le _
              · exact HS.out x h, by
              rw [List.append_nil, List.length_cons, hul]; exact HO.out, HC.out, HG3.out⟩
          go_wp2
          go_ret
          exact HM.out.post
    · by_cases h3 : r = 3
      · subst h3
        have hnx := nextAt 1048576 (by omega) (by omega) H1.out HG.out
        clear hL
        go_wp2_with fail
        refine hnx.mono ?_
        rintro e w2 ⟨r2, hr2, rfl, h2, hg2, _, _⟩
        have hfi := fromInt_any r2 w2 (by omega)
        have H2 := Lib.hid h2
        have HG2 := Lib.hid hg2
        have HL := Lib.hid (leaf_num r2 hr2)
        clear hnx h2 hg2
        go_wp2_with (go_at_call 44; refine hfi.mono ?_; rintro e w3 ⟨rfl, hb3⟩)
        have HM := Lib.hid (Made.leaf (d := d) (H2.out.below hb3) (grown_trans HG2.out (below_grown hb3)) HL.out.1 HL.out.2.1 HL.out.2.2)
        clear hb3
        go_wp2
        go_ret
        exact HM.out.post
      · have h3b : ((r : Int) == 3) = false := by simp; omega
        by_cases h4 : r = 4
        · subst h4
          have hnx := nextAt 50 (by omega) (by omega) H1.out HG.out
          clear hL
          go_wp2_with fail
          refine hnx.mono ?_
          rintro e w2 ⟨r2, hr2, rfl, h2, hg2, _, _⟩
          have hfi := fromInt_any r2 w2 (by omega)
          have H2 := Lib.hid h2
          have HG2 := Lib.hid hg2
          clear hnx h2 hg2
          go_wp2_with fail
          refine hfi.mono ?_
          rintro e w3 ⟨rfl, hb3⟩
          have hnx := nextAt 100 (by omega) (by omega) (H2.out.below hb3) (grown_trans HG2.out (below_grown hb3))
          have hl2 := decN_len 2 r2 (by omega)
          clear hb3 hfi
          go_wp2_with fail
          refine hnx.mono ?_
          rintro e w4 ⟨r3, hr3, rfl, h4, hg4, _, _⟩
          have hfi := fromInt_any r3 w4 (by omega)
          have hl3 := decN_len 2 r3 (by omega)
          have H4 := Lib.hid h4
          have HG4 := Lib.hid hg4
          clear hnx h4 hg4
          go_wp2_with fail
          refine hfi.mono ?_
          rintro e w5 ⟨rfl, hb5⟩
          have hT := dec_text r2 r3
          have HL := leaf_dec r2 r3 hr2 hr3
          have HM := Lib.hid (Made.leaf (d := d) (kind := 3) (text := (⟨(decN r2).toArray⟩ ++ ⟨#[46]⟩ ++ ⟨(decN r3).toArray⟩ : ByteArray)) (H4.out.below hb5) (grown_trans HG4.out (below_grown hb5)) (by rw [hT]; exact HL.1) (by rw [hT]; exact HL.2.1) (by rw [hT]; exact HL.2.2))
          clear hfi hb5 hT HL
          go_wp2
          go_ret
          exact HM.out.post
        · have h4b : ((r : Int) == 4) = false := by simp; omega
          by_cases h5 : r = 5
          · subst h5
            have hnx := nextAt 5 (by omega) (by omega) (H1.out.alloc (.cells strTab 9)) (grown_alloc HG.out (.cells strTab 9))
            clear hL
            go_wp2_with fail
            refine hnx.mono ?_
            rintro e w2 ⟨r2, hr2, rfl, h2, hg2, hbk, hz2⟩
            obtain ⟨t, ht, ho1, ho2, ho3⟩ := strTab_ok r2 hr2
            have hcl := (tab_cell ((hbk w1.heap.size (by simp) (by omega)).trans (heap_alloc_new w1 _)) r2).trans ht
            have HM := Lib.hid (Made.leaf (d := d) h2 hg2 ho1 ho2 ho3)
            clear hnx h2 hg2 hbk ht ho1 ho2 ho3 hz2
            go_wp2
            go_ret
            exact HM.out.post
          · have h5b : ((r : Int) == 5) = false := by simp; omega
            have hnx := nextAt 11 (by omega) (by omega) (H1.out.alloc (.cells symTab 9)) (grown_alloc HG.out (.cells symTab 9))
            by_cases hr3 : r < 3
            all_goals
              have hr3i : (r : Int) < 3 ∨ ¬ (r : Int) < 3 := by omega
              have hd0 : r < 3 → ¬ (0 : Int) < (d : Int) := by omega
              try (have hd1 := hd0 hr3)
              clear hL hr3i hd0
              go_wp2_with fail
              refine hnx.mono ?_
              rintro e w2 ⟨r2, hr2, rfl, h2, hg2, hbk, hz2⟩
              obtain ⟨t, ht, ho1, ho2, ho3⟩ := symTab_ok r2 hr2
              have hcl := (tab_cell ((hbk w1.heap.size (by simp) (by omega)).trans (heap_alloc_new w1 _)) r2).trans ht
              have HM := Lib.hid (Made.leaf (d := d) h2 hg2 ho1 ho2 ho3)
              clear hnx h2 hg2 hbk ht ho1 ho2 ho3 hz2
              go_wp2
              go_ret
              exact HM.out.post
end Go.Proofs.YtmmohhaolgblkaaDoor

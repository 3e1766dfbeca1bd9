/- The reference's Parse answers as the program's: the walk. -/
import Derived.Test.YtmmohhaolgblkaaDoorW
import Derived.Test.YtmmohhaolgblkaaDoorY
namespace Go.Proofs.YtmmohhaolgblkaaDoor
open Go.RowKit

theorem kindOfWord_q (s : ByteArray) (w : World) (hs : s.size ≤ 65536) (h0 : 0 < s.size) : Calls Tryd.prog 43 #[.string s] w fun e w' => e = .returned (.int .i64 (Sx.wkind s.data.toList)) ∧ ∃ n, w' = w.drewN n := kindOfWord_any s w hs h0

theorem wkind_ne5 (l : List UInt8) : (Sx.wkind l == 5) = false := by
  unfold Sx.wkind
  repeat' split
  all_goals rfl
/-- what a byte that begins no white space and no comment leads to -/
theorem skipTo_item {s : ByteArray} {k : Nat} (h : k < s.size) (hw : ¬ (s[k].toNat = 32 ∨ s[k].toNat = 9 ∨ s[k].toNat = 13 ∨ s[k].toNat = 10)) (hc : s[k].toNat ≠ 59) : skipTo s k = k :=
  skipTo_stop s k h (by omega) hc (by omega)


set_option maxHeartbeats 4000000 in
set_option maxRecDepth 100000 in
theorem parseItems_any (s : ByteArray) (w : World) :
    Calls Tryd.prog 27 #[.string s] w (ParsePost w (parseT s)) := by
  by_cases hbig : 65536 < s.size
  · have HT := Lib.hid (show parseT s = ([], 0, 6) by unfold parseT; rw [if_pos hbig])
    go_enter Tryd.func27, Tryd.ntmps27
    go_wp2
    go_ret3
    exact ParsePost.nil_of HT.out (Below.refl _ _)
  · have hs : s.size ≤ 65536 := by omega
    have HS := Lib.hid hbig
    clear hbig
    obtain ⟨ti, hti, hz0, hz1, hz2⟩ := info_parts infoItem
    obtain ⟨i0, hi, hy0, hy1, hy2⟩ := info_parts infoInt
    go_enter Tryd.func27, Tryd.ntmps27
    go_wp2
    generalize hb : w.heap.size = B at *
    have HB := Lib.hid hb
    clear hb
    go_loopw [5, 6, 7] (fun vo vp i wr => ∃ (k : Nat) (its : List It) (op : List Nat), k ≤ s.size ∧ i = .int .i64 k ∧ RI B w wr vo vp its op ∧ Good k its op ∧ PRel s k its op)
      (fun _ _ i _ => s.size - (intOf i).toNat)
    case atStart => exact ⟨0, [], [], Nat.zero_le _, rfl, ⟨World.ownsRow_nil _ _ _ _, World.ownsRow_nil _ _ _ _, Below.refl _ _, by have := HB.out; omega⟩, good_nil _, prel_start s⟩
    case round =>
      obtain ⟨k, its, op, hk, rfl, hR, hG, hP⟩ := hrel
      have HR := Lib.hid hR
      have HG := Lib.hid hG
      have HP := Lib.hid hP
      clear hR hG hP
      by_cases hlt : k < s.size
      · by_cases hw : s[k].toNat = 32 ∨ s[k].toNat = 9 ∨ s[k].toNat = 13 ∨ s[k].toNat = 10
        · have HN : Hid (PRel s (k + 1) its op) := Lib.hid (prel_move HP.out (skipTo_white s k hlt hw))
          have HG1 := Lib.hid (HG.out.mono (show k ≤ k + 1 by omega))
          rcases hw with hc | hc | hc | hc
          all_goals
            have hc1 : ((s[k].toNat : Int) == 32) = decide (s[k].toNat = 32) := by rw [Bool.eq_iff_iff]; simp; omega
            have hc2 : ((s[k].toNat : Int) == 9) = decide (s[k].toNat = 9) := by rw [Bool.eq_iff_iff]; simp; omega
            have hc3 : ((s[k].toNat : Int) == 13) = decide (s[k].toNat = 13) := by rw [Bool.eq_iff_iff]; simp; omega
            have hc4 : ((s[k].toNat : Int) == 10) = decide (s[k].toNat = 10) := by rw [Bool.eq_iff_iff]; simp; omega
            simp only [hc, Nat.reduceEqDiff, decide_true, decide_false] at hc1 hc2 hc3 hc4
            go_wp2
            go_roundw
            case rel => exact ⟨k + 1, its, op, by omega, by go_num, HR.out.alloc _, HG1.out, HN.out⟩
            case measure => simp [intOf]; omega
        · have hc1 : ((s[k].toNat : Int) == 32) = false := by simp; omega
          have hc2 : ((s[k].toNat : Int) == 9) = false := by simp; omega
          have hc3 : ((s[k].toNat : Int) == 13) = false := by simp; omega
          have hc4 : ((s[k].toNat : Int) == 10) = false := by simp; omega
          by_cases hsc : s[k].toNat = 59
          · have hc5 : ((s[k].toNat : Int) == 59) = true := by simp [hsc]
            have HC := Lib.hid (com_start s k hlt hsc)
            have HSC := Lib.hid hsc
            clear hsc hw
            go_wp2
            go_loop [7] (fun i => ∃ j : Nat, k ≤ j ∧ j ≤ s.size ∧ i = .int .i64 j ∧ ComRel s k j) (fun i => s.size - (intOf i).toNat)
            case atStart => exact ⟨k, Nat.le_refl _, hk, rfl, HC.out⟩
            case round =>
              obtain ⟨j, hkj, hj, rfl, hcr⟩ := hrel
              have HCR := Lib.hid hcr
              clear hcr
              by_cases hjl : j < s.size
              · by_cases hnl : s[j].toNat = 10
                · have hd1 : ((s[j].toNat : Int) != 10) = false := by simp [hnl]
                  have hne : k ≠ j := fun e => by subst e; have := HSC.out; omega
                  have HN : Hid (PRel s j its op) := Lib.hid (prel_move HP.out (com_line HCR.out hjl hnl).symm)
                  clear hnl
                  go_wp2
                  go_roundw
                  case rel => exact ⟨j, its, op, hj, rfl, HR.out.alloc _, HG.out.mono hkj, HN.out⟩
                  case measure => simp [intOf]; omega
                · have hd1 : ((s[j].toNat : Int) != 10) = true := by simp; omega
                  have HN := Lib.hid (com_step HCR.out hjl hnl)
                  clear hnl
                  go_wp2
                  go_round
                  case rel => exact ⟨j + 1, by omega, by omega, by go_num, HN.out⟩
                  case measure => simp [intOf]; omega
              · have HN : Hid (PRel s j its op) := Lib.hid (prel_move HP.out (com_end HCR.out hjl).symm)
                go_wp2
                go_roundw
                case rel => exact ⟨j, its, op, hj, rfl, HR.out.alloc _, HG.out.mono hkj, HN.out⟩
                case measure => simp [intOf]; omega
          · have hc5 : ((s[k].toNat : Int) == 59) = false := by simp; omega
            have HSK := Lib.hid (skipTo_item hlt hw hsc)
            have HE := itemF_eq s k its op hlt
            clear hw hsc
            by_cases h41 : s[k].toNat = 41
            · have hc6 : ((s[k].toNat : Int) == 41) = true := by simp [h41]
              rw [if_pos h41] at HE
              have HE := Lib.hid HE
              clear h41
              obtain ⟨ao, co, hvo⟩ := ownsRow_len HR.out.opn
              by_cases hop : op = []
              · have HF : Hid (parseT s = ([], k, 2)) := Lib.hid (prel_err HP.out hlt HSK.out (by rw [HE.out, if_pos hop]) HS.out)
                have hol : ((op.length : Int) == 0) = true := by rw [hop]; rfl
                have hol2 : (op.length == 0) = true := by rw [hop]; rfl
                subst hvo
                clear hop
                go_wp2
                go_ret3
                exact ParsePost.nil_of HF.out (by rw [HB.out]; exact (HR.out.alloc _).bel)
              · have HN := Lib.hid (prel_item HP.out hlt HSK.out (x := ⟨k + 1, its, op.dropLast⟩) (by rw [HE.out, if_neg hop]))
                have HGN := Lib.hid (good_item s k its op hlt HG.out ⟨k + 1, its, op.dropLast⟩ (by rw [HE.out, if_neg hop]))
                obtain ⟨op', i, rfl⟩ : ∃ op' i, op = op' ++ [i] := ⟨op.dropLast, op.getLast hop, (List.dropLast_concat_getLast hop).symm⟩
                simp only [List.dropLast_concat] at HN HGN
                obtain ⟨gg, cc, hv2, hgg, hcc, hcm⟩ := ownsRow_shape HR.out.opn (by simp)
                simp only [List.length_append, List.length_singleton] at hv2 hcc
                subst hv2
                have HRN : ∀ o, Hid (RI B w (wr.alloc o) _ (.slice (some ⟨gg, 0, none⟩) op'.length cc) its op') := fun o => Lib.hid ⟨(HR.out.alloc o).out, by
                  have := (HR.out.alloc o).opn
                  rw [List.length_append, List.length_singleton] at this
                  unfold ints at this; rw [List.map_append] at this
                  exact ownsRow_init this, (HR.out.alloc o).bel, (HR.out.alloc o).le⟩
                have HRN := Lib.hid HRN
                have hle : op'.length ≤ cc := by omega
                have hcm2 : cc ≤ 9223372036854775807 := by unfold maxLen at hcm; omega
                clear hop hvo hcm
                go_wp2
                go_roundw
                case rel => exact ⟨k + 1, its, op', by omega, by go_num, (HRN.out _).out, HGN.out, HN.out⟩
                case measure => simp [intOf]; omega
            · have hc6 : ((s[k].toNat : Int) == 41) = false := by simp; omega
              rw [if_neg h41] at HE
              by_cases h40 : s[k].toNat = 40
              · have hc7 : ((s[k].toNat : Int) == 40) = true := by simp [h40]
                rw [if_pos h40] at HE
                have HE := Lib.hid HE
                clear h40 h41
                by_cases hd : 256 < op.length
                · obtain ⟨ao, co, hvo⟩ := ownsRow_len HR.out.opn
                  have HF : Hid (parseT s = ([], k, 6)) := Lib.hid (prel_err HP.out hlt HSK.out (by rw [HE.out]; unfold addTo; rw [if_pos hd]) HS.out)
                  subst hvo
                  go_wp2
                  go_ret3
                  exact ParsePost.nil_of HF.out (by rw [HB.out]; exact (HR.out.alloc _).bel)
                · have HI : itemF s ⟨k, its, op⟩ = .ok ⟨k + 1, bumpAt its op.getLast? ++ [⟨5, ⟨#[]⟩, 0, k⟩], op ++ [its.length]⟩ := by
                    rw [HE.out]; unfold addTo; rw [if_neg hd]; simp [bump_len]
                  have HN := Lib.hid (prel_item HP.out hlt HSK.out HI)
                  have HGN := Lib.hid (good_item s k its op hlt HG.out _ HI)
                  clear HI HE
                  have HX0 := Lib.hid (RX.new0 HR.out ⟨5, ⟨#[]⟩, 0, k⟩)
                  have hfew := HG.out.few
                  have hopn := HG.out.opn
                  have hBle := HR.out.le
                  by_cases hop : op = []
                  · subst hop
                    obtain ⟨ao, co, hvo, hao⟩ : ∃ ao co, _ = Value.slice ao 0 co ∧ ((ao = none ∧ co = 0) ∨ ∃ g, ao = some ⟨g, 0, none⟩) := by
                      rcases HR.out.opn.2 with h | ⟨g, cap, cur, h, _⟩
                      · exact ⟨none, 0, h.1, .inl ⟨rfl, rfl⟩⟩
                      · exact ⟨_, cap, h, .inr ⟨g, rfl⟩⟩
                    subst hvo
                    have hl0 : ([] : List Nat).length = 0 := rfl
                    go_wp2_with (at_builtin; (refine wpList_append_own _ rfl (.tmp 145) (.tmp 147) 26 rfl B 31 ti _ 4 40 Tryd.underlying26 hti hz0 hz1 hz2 rfl (by decide) _ its.length _ rfl ((HX0.out.out' rfl).alloc _) ⟨wr.heap.size + 1, 0, none⟩ 1 1 (It.cells ⟨5, ⟨#[]⟩, 0, k⟩) rfl rfl ?c1 ?c2 (by unfold maxLen; omega) (by omega) (by simp; omega) ?_))
                    case c1 => first | (intro j u hj; exact hj) | exact news_two _ _ _ _ _ (by first | rfl | simp [World.setCell]) | exact news_one _ _ _ _ (by first | rfl | simp [World.setCell])
                    case c2 => intro u hu; simp [It.cells] at hu; rcases hu with rfl | rfl | rfl | rfl <;> rfl
                    intro v' w1 hown' hgrow _
                    obtain ⟨g', cap', rfl, _⟩ := ownsRow_shape hown' (by omega)
                    have hp := HX0.out.pushed' rfl _ hown' hgrow
                    have hk0 := hp.2
                    have HP1 := Lib.hid hp.1
                    have hs1 := hp.1.le
                    clear hp hown' hgrow
                    rcases hao with ⟨rfl, rfl⟩ | ⟨gz, rfl⟩
                    · go_wp2_with (at_builtin; (refine wpList_append_grows _ rfl (.tmp 157) (.tmp 161) 24 rfl 3 i0 (.int .i64 0) 1 8 Tryd.underlying24 hi hy0 hy1 hy2 rfl (by decide) none 0 0 [] rfl (fun _ => ⟨rfl, rfl⟩) rfl (by intro b hb; cases hb) ⟨w1.heap.size, 0, none⟩ 1 1 [.int .i64 its.length] rfl rfl (World.news_of_block (cs := #[.int .i64 its.length]) (t := 3) (fr := (0, 0)) (heap_alloc_new w1 _)) (by simp [Value.oneCell']) (by omega) (by unfold maxLen; omega) (by omega) ?_))
                      intro v2 w2 hown2 hgrow2
                      have HQ := Lib.hid (HP1.out.opened _ its.length (by omega) hown2 hgrow2)
                      clear hown2 hgrow2
                      go_wp2
                      go_roundw
                      case rel => exact ⟨k + 1, _, _, by omega, by go_num, HQ.out, HGN.out, HN.out⟩
                      case measure => simp [intOf]; omega
                    · go_wp2_with (at_builtin; (refine wpList_append_grows _ rfl (.tmp 157) (.tmp 161) 24 rfl 3 i0 (.int .i64 0) 1 8 Tryd.underlying24 hi hy0 hy1 hy2 rfl (by decide) (some ⟨gz, 0, none⟩) 0 0 [] rfl (fun h => by cases h) rfl (by intro b hb j u hu; simp at hu) ⟨w1.heap.size, 0, none⟩ 1 1 [.int .i64 its.length] rfl rfl (World.news_of_block (cs := #[.int .i64 its.length]) (t := 3) (fr := (0, 0)) (heap_alloc_new w1 _)) (by simp [Value.oneCell']) (by omega) (by unfold maxLen; omega) (by omega) ?_))
                      intro v2 w2 hown2 hgrow2
                      have HQ := Lib.hid (HP1.out.opened _ its.length (by omega) hown2 hgrow2)
                      clear hown2 hgrow2
                      go_wp2
                      go_roundw
                      case rel => exact ⟨k + 1, _, _, by omega, by go_num, HQ.out, HGN.out, HN.out⟩
                      case measure => simp [intOf]; omega
                  · obtain ⟨op', i, rfl⟩ : ∃ op' i, op = op' ++ [i] := ⟨op.dropLast, op.getLast hop, (List.dropLast_concat_getLast hop).symm⟩
                    have hil : i < its.length := HG.out.inop i (by simp)
                    have hkk := HG.out.kids its[i] (List.getElem_mem hil)
                    have hyi : its[i]? = some its[i] := List.getElem?_eq_getElem hil
                    generalize its[i] = y at *
                    obtain ⟨gi, ci, hvi, hgi, hci⟩ := ownsRow_shape HR.out.out (by omega)
                    subst hvi
                    obtain ⟨gg, cc, hvo, hgg, hcc⟩ := ownsRow_shape HR.out.opn (by simp)
                    simp only [List.length_append, List.length_singleton] at hvo hcc hd hopn
                    subst hvo
                    have hgi2 := (HR.out.out.lt gi rfl).2
                    have hgg2 := (HR.out.opn.lt gg rfl).2
                    have hoc : wr.cell? ⟨gg, op'.length, none⟩ = some (.int .i64 i) := by
                      have := HR.out.opn
                      rw [List.length_append, List.length_singleton] at this
                      rw [this.cellAt op'.length (by omega)]; simp [ints]
                    have hic : wr.cell? ⟨gi, i * 4 + 2, none⟩ = some (.int .i64 y.kids) := by
                      rw [HR.out.out.cellAt (i * 4 + 2) (by omega), flat_get its i y 2 hyi (by omega)]; rfl
                    have hif : wr.frozen? ⟨gi, i * 4 + 2, none⟩ = false := HR.out.out.frozenAt _
                    have HX1 := Lib.hid (RX.newB HR.out rfl hyi (y.kids + 1) rfl ⟨5, ⟨#[]⟩, 0, k⟩)
                    have hbl : (its.modify i It.bump).length = its.length := List.length_modify ..
                    simp only [List.getLast?_concat, bumpAt] at HN HGN
                    clear hop hyi
                    go_wp2_with (at_builtin; (refine wpList_append_own _ rfl (.tmp 145) (.tmp 147) 26 rfl B 31 ti _ 4 40 Tryd.underlying26 hti hz0 hz1 hz2 rfl (by decide) _ its.length _ rfl ((HX1.out.out' hbl).alloc _) ⟨wr.heap.size + 1, 0, none⟩ 1 1 (It.cells ⟨5, ⟨#[]⟩, 0, k⟩) rfl rfl ?c1 ?c2 (by unfold maxLen; omega) (by omega) (by simp; omega) ?_))
                    case c1 => first | (intro j u hj; exact hj) | exact news_two _ _ _ _ _ (by first | rfl | simp [World.setCell]) | exact news_one _ _ _ _ (by first | rfl | simp [World.setCell])
                    case c2 => intro u hu; simp [It.cells] at hu; rcases hu with rfl | rfl | rfl | rfl <;> rfl
                    intro v' w1 hown' hgrow _
                    obtain ⟨g', cap', rfl, _⟩ := ownsRow_shape hown' (by omega)
                    have hp := HX1.out.pushed' hbl _ hown' hgrow
                    have hk0 := hp.2
                    have HP1 := Lib.hid hp.1
                    have hs1 := hp.1.le
                    clear hp hown' hgrow
                    have HO1 : Hid (w1.ownsRow B 3 1 (.slice (some ⟨gg, 0, none⟩) (op'.length + 1) cc) (op'.length + 1) (ints (op' ++ [i]))) := Lib.hid (by have := HP1.out.opn; rwa [List.length_append, List.length_singleton] at this)
                    have hcc2 : op'.length + 1 ≤ cc := hcc.1
                    go_wp2_with (at_builtin; (refine wpList_append_grows _ rfl (.tmp 157) (.tmp 161) 24 rfl 3 i0 (.int .i64 0) 1 8 Tryd.underlying24 hi hy0 hy1 hy2 rfl (by decide) (some ⟨gg, 0, none⟩) (op'.length + 1) (op'.length + 1) (ints (op' ++ [i])) rfl (fun h => by cases h) (by simp [ints]) (by intro b hb j u hu; cases hb; exact ((HO1.out.alloc _).cells rfl) j u hu) ⟨w1.heap.size, 0, none⟩ 1 1 [.int .i64 its.length] rfl rfl (World.news_of_block (cs := #[.int .i64 its.length]) (t := 3) (fr := (0, 0)) (heap_alloc_new w1 _)) (by simp [Value.oneCell']) (by omega) (by unfold maxLen; omega) (by omega) ?_))
                    intro v2 w2 hown2 hgrow2
                    have hown3 : w2.ownsRow (w1.heap.size + 1) 3 1 v2 ((op' ++ [i]).length + 1) (ints (op' ++ [i]) ++ [.int .i64 its.length]) := by rw [List.length_append, List.length_singleton]; exact hown2
                    have HQ := Lib.hid (HP1.out.opened _ its.length (by omega) hown3 hgrow2)
                    clear hown2 hown3 hgrow2
                    go_wp2
                    go_roundw
                    case rel => exact ⟨k + 1, _, _, by omega, by go_num, HQ.out, HGN.out, HN.out⟩
                    case measure => simp [intOf]; omega
              · have hc7 : ((s[k].toNat : Int) == 40) = false := by simp; omega
                rw [if_neg h40] at HE
                by_cases h34 : s[k].toNat = 34
                · have hc8 : ((s[k].toNat : Int) == 34) = true := by simp [h34]
                  rw [if_pos h34] at HE
                  have HE := Lib.hid HE
                  clear h34 h40 h41
                  cases hT : Sx.textN (s.data.toList.drop (k + 1)) with
                  | none =>
                    have HF : Hid (parseT s = ([], k, 2)) := Lib.hid (prel_err HP.out hlt HSK.out (by rw [HE.out, hT]) HS.out)
                    have HTA := fun w => Lib.hid (textAt_none s k w hs hlt hT)
                    have HTA := Lib.hid HTA
                    clear hT
                    go_wp2_with (go_at_call 41; refine (HTA.out _).out.mono ?_; rintro e w' ⟨rfl, rfl⟩)
                    go_ret3
                    exact ParsePost.nil_of HF.out (by rw [HB.out]; exact (HR.out.alloc _).bel)
                  | some z =>
                    obtain ⟨T, n⟩ := z
                    have hTle := (Sx.textN_le _ _ (Nat.le_refl _) _ hT).1
                    rw [List.length_drop, len_data] at hTle
                    simp only at hTle
                    have HTA := fun w => Lib.hid (textAt_some s k w hs hlt hT)
                    have HTA := Lib.hid HTA
                    by_cases hd : 256 < op.length
                    · obtain ⟨ao, co, hvo⟩ := ownsRow_len HR.out.opn
                      have HF : Hid (parseT s = ([], k, 6)) := Lib.hid (prel_err HP.out hlt HSK.out (by rw [HE.out, hT]; unfold addTo; simp only; rw [if_pos hd]) HS.out)
                      subst hvo
                      clear hT
                      go_wp2_with (go_at_call 41; refine (HTA.out _).out.mono ?_; rintro e w' ⟨rfl, rfl⟩)
                      go_ret3
                      exact ParsePost.nil_of HF.out (by rw [HB.out]; exact (HR.out.alloc _).bel)
                    · have HI : itemF s ⟨k, its, op⟩ = .ok ⟨k + 1 + n, bumpAt its op.getLast? ++ [⟨4, ⟨T.toArray⟩, 0, k⟩], op⟩ := by
                        rw [HE.out, hT]; unfold addTo; simp only; rw [if_neg hd]
                      have HN := Lib.hid (prel_item HP.out hlt HSK.out HI)
                      have HGN := Lib.hid (good_item s k its op hlt HG.out _ HI)
                      clear HI HE hT
                      have HX0 := Lib.hid (RX.new0 HR.out ⟨4, ⟨T.toArray⟩, 0, k⟩)
                      have hfew := HG.out.few
                      have hopn := HG.out.opn
                      have hBle := HR.out.le
                      by_cases hop : op = []
                      · subst hop
                        obtain ⟨ao, co, hvo, hao⟩ : ∃ ao co, _ = Value.slice ao 0 co ∧ ((ao = none ∧ co = 0) ∨ ∃ g, ao = some ⟨g, 0, none⟩) := by
                          rcases HR.out.opn.2 with h | ⟨g, cap, cur, h, _⟩
                          · exact ⟨none, 0, h.1, .inl ⟨rfl, rfl⟩⟩
                          · exact ⟨_, cap, h, .inr ⟨g, rfl⟩⟩
                        subst hvo
                        have hl0 : ([] : List Nat).length = 0 := rfl
                        go_wp2_with (first | (go_at_call 41; refine (HTA.out _).out.mono ?_; rintro e w' ⟨rfl, rfl⟩) | (at_builtin; (refine wpList_append_own _ rfl (.tmp 145) (.tmp 147) 26 rfl B 31 ti _ 4 40 Tryd.underlying26 hti hz0 hz1 hz2 rfl (by decide) _ its.length _ rfl ((HX0.out.out' rfl).alloc _) ⟨wr.heap.size + 1, 0, none⟩ 1 1 (It.cells ⟨4, ⟨T.toArray⟩, 0, k⟩) rfl rfl ?c1 ?c2 (by unfold maxLen; omega) (by omega) (by simp; omega) ?_)))
                        case c1 => first | (intro j u hj; exact hj) | exact news_two _ _ _ _ _ (by first | rfl | simp [World.setCell]) | exact news_one _ _ _ _ (by first | rfl | simp [World.setCell])
                        case c2 => intro u hu; simp [It.cells] at hu; rcases hu with rfl | rfl | rfl | rfl <;> rfl
                        intro v' w1 hown' hgrow _
                        obtain ⟨g', cap', rfl, _⟩ := ownsRow_shape hown' (by omega)
                        have hp := HX0.out.pushed' rfl _ hown' hgrow
                        have hk0 := hp.2
                        have HP1 := Lib.hid hp.1
                        have hs1 := hp.1.le
                        clear hp hown' hgrow
                        go_wp2
                        go_roundw
                        case rel => exact ⟨k + 1 + n, _, _, by omega, by go_num, HP1.out, HGN.out, HN.out⟩
                        case measure => simp [intOf]; omega
                      · obtain ⟨op', i, rfl⟩ : ∃ op' i, op = op' ++ [i] := ⟨op.dropLast, op.getLast hop, (List.dropLast_concat_getLast hop).symm⟩
                        have hil : i < its.length := HG.out.inop i (by simp)
                        have hkk := HG.out.kids its[i] (List.getElem_mem hil)
                        have hyi : its[i]? = some its[i] := List.getElem?_eq_getElem hil
                        generalize its[i] = y at *
                        obtain ⟨gi, ci, hvi, hgi, hci⟩ := ownsRow_shape HR.out.out (by omega)
                        subst hvi
                        obtain ⟨gg, cc, hvo, hgg, hcc⟩ := ownsRow_shape HR.out.opn (by simp)
                        simp only [List.length_append, List.length_singleton] at hvo hcc hd hopn
                        subst hvo
                        have hgi2 := (HR.out.out.lt gi rfl).2
                        have hgg2 := (HR.out.opn.lt gg rfl).2
                        have hoc : wr.cell? ⟨gg, op'.length, none⟩ = some (.int .i64 i) := by
                          have := HR.out.opn
                          rw [List.length_append, List.length_singleton] at this
                          rw [this.cellAt op'.length (by omega)]; simp [ints]
                        have hic : wr.cell? ⟨gi, i * 4 + 2, none⟩ = some (.int .i64 y.kids) := by
                          rw [HR.out.out.cellAt (i * 4 + 2) (by omega), flat_get its i y 2 hyi (by omega)]; rfl
                        have hif : wr.frozen? ⟨gi, i * 4 + 2, none⟩ = false := HR.out.out.frozenAt _
                        have HX1 := Lib.hid (RX.newB HR.out rfl hyi (y.kids + 1) rfl ⟨4, ⟨T.toArray⟩, 0, k⟩)
                        have hbl : (its.modify i It.bump).length = its.length := List.length_modify ..
                        simp only [List.getLast?_concat, bumpAt] at HN HGN
                        clear hop hyi
                        go_wp2_with (first | (go_at_call 41; refine (HTA.out _).out.mono ?_; rintro e w' ⟨rfl, rfl⟩) | (at_builtin; (refine wpList_append_own _ rfl (.tmp 145) (.tmp 147) 26 rfl B 31 ti _ 4 40 Tryd.underlying26 hti hz0 hz1 hz2 rfl (by decide) _ its.length _ rfl ((HX1.out.out' hbl).alloc _) ⟨wr.heap.size + 1, 0, none⟩ 1 1 (It.cells ⟨4, ⟨T.toArray⟩, 0, k⟩) rfl rfl ?c1 ?c2 (by unfold maxLen; omega) (by omega) (by simp; omega) ?_)))
                        case c1 => first | (intro j u hj; exact hj) | exact news_two _ _ _ _ _ (by first | rfl | simp [World.setCell]) | exact news_one _ _ _ _ (by first | rfl | simp [World.setCell])
                        case c2 => intro u hu; simp [It.cells] at hu; rcases hu with rfl | rfl | rfl | rfl <;> rfl
                        intro v' w1 hown' hgrow _
                        obtain ⟨g', cap', rfl, _⟩ := ownsRow_shape hown' (by omega)
                        have hp := HX1.out.pushed' hbl _ hown' hgrow
                        have hk0 := hp.2
                        have HP1 := Lib.hid hp.1
                        have hs1 := hp.1.le
                        clear hp hown' hgrow
                        go_wp2
                        go_roundw
                        case rel => exact ⟨k + 1 + n, _, _, by omega, by go_num, HP1.out, HGN.out, HN.out⟩
                        case measure => simp [intOf]; omega
                · have hc8 : ((s[k].toNat : Int) == 34) = false := by simp; omega
                  rw [if_neg h34] at HE
                  have HE := Lib.hid HE
                  clear h34 h40 h41
                  by_cases hwb : Sx.wb s[k] = true
                  · have hwp : 0 < wordN s k := by rw [wordN_step s k hlt hwb]; omega
                    go_wp2_with (go_at_call 42; refine (wordByte_any _ _).mono ?_; rintro e w' ⟨rfl, rfl⟩)
                    go_loop [7] (fun i => ∃ j : Nat, k ≤ j ∧ j ≤ s.size ∧ i = .int .i64 j ∧ j + wordN s j = k + wordN s k) (fun i => s.size - (intOf i).toNat)
                    case atStart => exact ⟨k, Nat.le_refl _, hk, rfl, rfl⟩
                    case round =>
                      obtain ⟨j, hkj, hj, rfl, hwn⟩ := hrel
                      have HWN := Lib.hid hwn
                      clear hwn
                      by_cases hgo : ∃ h : j < s.size, Sx.wb s[j] = true
                      · obtain ⟨hjl, hbj⟩ := hgo
                        have HN : Hid (j + 1 + wordN s (j + 1) = k + wordN s k) := Lib.hid (by have := HWN.out; rw [wordN_step s j hjl hbj] at this; omega)
                        go_wp2_with (go_at_call 42; refine (wordByte_any _ _).mono ?_; rintro e w' ⟨rfl, rfl⟩)
                        go_round
                        case rel => exact ⟨j + 1, by omega, by omega, by go_num, HN.out⟩
                        case measure => simp [intOf]; omega
                      · have hjw : j = k + wordN s k := by
                          have := HWN.out
                          by_cases hjl : j < s.size
                          · have hb : Sx.wb s[j] = false := by simpa using fun h => hgo ⟨hjl, h⟩
                            rw [wordN_stop s j hjl hb] at this; omega
                          · rw [wordN_end s j hjl] at this; omega
                        rw [← hjw] at HE
                        have hkj2 : k < j := by omega
                        have hq1 : (k : Int) ≤ (j : Int) := by omega
                        have hq2 : (j : Int) ≤ (s.size : Int) := by omega
                        have hq3 : (0 : Int) ≤ (k : Int) := by omega
                        obtain ⟨kd, hkd⟩ : ∃ kd, Sx.wkind (s.extract k j).data.toList = kd := ⟨_, rfl⟩
                        have HKW := fun w => Lib.hid (kindOfWord_q (s.extract k j) w (by rw [ByteArray.size_extract]; omega) (by rw [ByteArray.size_extract]; omega))
                        have hk5 : (kd == 5) = false := by rw [← hkd]; exact wkind_ne5 _
                        rw [hkd] at HE HKW
                        have HKW := Lib.hid HKW
                        have hgo2 : (∃ h : j < s.size, Sx.wb s[j] = false) ∨ ¬ j < s.size := by
                          by_cases hjl : j < s.size
                          · exact .inl ⟨hjl, by simpa using fun h => hgo ⟨hjl, h⟩⟩
                          · exact .inr hjl
                        have hRX := fun n => RX.newW HR.out kd k (s.extract k j) n
                        have HRX := Lib.hid hRX
                        have hBle := HR.out.le
                        clear hjw hwp HWN hgo hkd hRX hkj
                        rcases hgo2 with ⟨hjl, hbj⟩ | hjl
                        all_goals
                          go_wp2_with (go_at_call 42; refine (wordByte_any _ _).mono ?_; rintro e w' ⟨rfl, rfl⟩)
                          go_region_held3 (fun _ => True) (exact trivial) ((go_at_call 43; refine (HKW.out _).out.mono ?_; rintro e w' ⟨rfl, nn, rfl⟩))
                          have HX0 := Lib.hid (HRX.out (1 + nn))
                          have hb2 : wr.heap.size < ((((wr.alloc (.cells #[.int .i64 0, .string ⟨#[]⟩, .int .i64 0, .int .i64 k] 31)).drewN (1 + nn)).setCell ⟨wr.heap.size, 0, none⟩ (.int .i64 kd)).setCell ⟨wr.heap.size, 1, none⟩ (.string (s.extract k j))).heap.size := HX0.out.lt
                          clear HKW HRX
                          generalize ((((wr.alloc (.cells #[.int .i64 0, .string ⟨#[]⟩, .int .i64 0, .int .i64 k] 31)).drewN (1 + nn)).setCell ⟨wr.heap.size, 0, none⟩ (.int .i64 kd)).setCell ⟨wr.heap.size, 1, none⟩ (.string (s.extract k j))) = W2 at *
                          have hB2 := HX0.out.ri.le
                          have hBb := HX0.out.bb
                          have x0 := HX0.out.cell 0
                          have x1 := HX0.out.cell 1
                          have x2 := HX0.out.cell 2
                          have x3 := HX0.out.cell 3
                          simp only [It.cells, List.getElem?_cons_succ, List.getElem?_cons_zero] at x0 x1 x2 x3
                          generalize wr.heap.size = bx at *
                          by_cases hz : kd = 0
                          · have HF : Hid (parseT s = ([], k, 2)) := Lib.hid (prel_err HP.out hlt HSK.out (by rw [HE.out, if_pos hz]) HS.out)
                            subst hz
                            go_wp2
                            go_ret3
                            exact ParsePost.nil_of HF.out (by rw [HB.out]; exact HX0.out.ri.bel)
                          · have hzb : (kd == 0) = false := by simpa using hz
                            by_cases hd : 256 < op.length
                            · obtain ⟨ao, co, hvo⟩ := ownsRow_len HX0.out.ri.opn
                              have HF : Hid (parseT s = ([], k, 6)) := Lib.hid (prel_err HP.out hlt HSK.out (by rw [HE.out, if_neg hz]; unfold addTo; rw [if_pos hd]) HS.out)
                              subst hvo
                              go_wp2
                              go_ret3
                              exact ParsePost.nil_of HF.out (by rw [HB.out]; exact HX0.out.ri.bel)
                            · have HI : itemF s ⟨k, its, op⟩ = .ok ⟨j, bumpAt its op.getLast? ++ [⟨kd, s.extract k j, 0, k⟩], op⟩ := by
                                rw [HE.out, if_neg hz]; unfold addTo; rw [if_neg hd]
                              have HN := Lib.hid (prel_item HP.out hlt HSK.out HI)
                              have HGN := Lib.hid (good_item s k its op hlt HG.out _ HI)
                
                              clear HI HE
                              have hfew := HG.out.few
                              have hopn := HG.out.opn
                              by_cases hop : op = []
                              · subst hop
                                obtain ⟨ao, co, hvo, hao⟩ : ∃ ao co, _ = Value.slice ao 0 co ∧ ((ao = none ∧ co = 0) ∨ ∃ g, ao = some ⟨g, 0, none⟩) := by
                                  rcases HX0.out.ri.opn.2 with h | ⟨g, cap, cur, h, _⟩
                                  · exact ⟨none, 0, h.1, .inl ⟨rfl, rfl⟩⟩
                                  · exact ⟨_, cap, h, .inr ⟨g, rfl⟩⟩
                                subst hvo
                                have hl0 : ([] : List Nat).length = 0 := rfl
                                go_wp2_with (at_builtin; (refine wpList_append_own _ rfl (.tmp 145) (.tmp 147) 26 rfl B 31 ti _ 4 40 Tryd.underlying26 hti hz0 hz1 hz2 rfl (by decide) _ its.length _ rfl ((HX0.out.out' rfl).alloc _) ⟨W2.heap.size, 0, none⟩ 1 1 (It.cells ⟨kd, s.extract k j, 0, k⟩) rfl rfl ?c1 ?c2 (by unfold maxLen; omega) (by omega) (by simp; omega) ?_))
                                case c1 => first | (intro j u hj; exact hj) | exact news_two _ _ _ _ _ (by first | rfl | simp [World.setCell]) | exact news_one _ _ _ _ (by first | rfl | simp [World.setCell])
                                case c2 => intro u hu; simp [It.cells] at hu; rcases hu with rfl | rfl | rfl | rfl <;> rfl
                                intro v' w1 hown' hgrow _
                                obtain ⟨g', cap', rfl, _⟩ := ownsRow_shape hown' (by omega)
                                have hp := HX0.out.pushed' rfl _ hown' hgrow
                                have hk0 := hp.2
                                have HP1 := Lib.hid hp.1
                                have hs1 := hp.1.le
                                clear hp hown' hgrow
                                go_wp2
                                go_roundw
                                case rel => exact ⟨j, _, _, by omega, by go_num, HP1.out, HGN.out, HN.out⟩
                                case measure => simp [intOf]; omega
                              · obtain ⟨op', i, rfl⟩ : ∃ op' i, op = op' ++ [i] := ⟨op.dropLast, op.getLast hop, (List.dropLast_concat_getLast hop).symm⟩
                                have hil : i < its.length := HG.out.inop i (by simp)
                                have hkk := HG.out.kids its[i] (List.getElem_mem hil)
                                have hyi : its[i]? = some its[i] := List.getElem?_eq_getElem hil
                                generalize its[i] = y at *
                                obtain ⟨gi, ci, hvi, hgi, hci⟩ := ownsRow_shape HX0.out.ri.out (by omega)
                                subst hvi
                                obtain ⟨gg, cc, hvo, hgg, hcc⟩ := ownsRow_shape HX0.out.ri.opn (by simp)
                                simp only [List.length_append, List.length_singleton] at hvo hcc hd hopn
                                subst hvo
                                have hgi2 := (HX0.out.ri.out.lt gi rfl).2
                                have hgg2 := (HX0.out.ri.opn.lt gg rfl).2
                                have hoc : W2.cell? ⟨gg, op'.length, none⟩ = some (.int .i64 i) := by
                                  have := HX0.out.ri.opn
                                  rw [List.length_append, List.length_singleton] at this
                                  rw [this.cellAt op'.length (by omega)]; simp [ints]
                                have hic : W2.cell? ⟨gi, i * 4 + 2, none⟩ = some (.int .i64 y.kids) := by
                                  rw [HX0.out.ri.out.cellAt (i * 4 + 2) (by omega), flat_get its i y 2 hyi (by omega)]; rfl
                                have hif : W2.frozen? ⟨gi, i * 4 + 2, none⟩ = false := HX0.out.ri.out.frozenAt _
                                have HX1 := Lib.hid (HX0.out.bumped rfl hyi (y.kids + 1) rfl)
                                have hbl : (its.modify i It.bump).length = its.length := List.length_modify ..
                                simp only [List.getLast?_concat, bumpAt] at HN HGN
                                clear hop hyi
                                have hgb : ¬ gi = bx := fun e => HX0.out.no (by rw [e]; rfl)
                                have hgb2 : ¬ bx = gi := fun e => hgb e.symm
                                go_wp2_with (at_builtin; (refine wpList_append_own _ rfl (.tmp 145) (.tmp 147) 26 rfl B 31 ti _ 4 40 Tryd.underlying26 hti hz0 hz1 hz2 rfl (by decide) _ its.length _ rfl ((HX1.out.out' hbl).alloc _) ⟨W2.heap.size, 0, none⟩ 1 1 (It.cells ⟨kd, s.extract k j, 0, k⟩) rfl rfl ?c1 ?c2 (by unfold maxLen; omega) (by omega) (by simp; omega) ?_))
                                case c1 => first | (intro j u hj; exact hj) | exact news_two _ _ _ _ _ (by first | rfl | simp [World.setCell]) | exact news_one _ _ _ _ (by first | rfl | simp [World.setCell])
                                case c2 => intro u hu; simp [It.cells] at hu; rcases hu with rfl | rfl | rfl | rfl <;> rfl
                                intro v' w1 hown' hgrow _
                                obtain ⟨g', cap', rfl, _⟩ := ownsRow_shape hown' (by omega)
                                have hp := HX1.out.pushed' hbl _ hown' hgrow
                                have hk0 := hp.2
                                have HP1 := Lib.hid hp.1
                                have hs1 := hp.1.le
                                clear hp hown' hgrow
                                go_wp2
                                go_roundw
                                case rel => exact ⟨j, _, _, by omega, by go_num, HP1.out, HGN.out, HN.out⟩
                                case measure => simp [intOf]; omega
                  · have hw0 : Sx.wkind (s.extract k (k + wordN s k)).data.toList = 0 := by
                      refine Classical.byContradiction fun hne => ?_
                      have := wordN_pos s k hne
                      rw [wordN_stop s k hlt (by simpa using hwb)] at this
                      omega
                    have HF : Hid (parseT s = ([], k, 2)) := Lib.hid (prel_err HP.out hlt HSK.out (by rw [HE.out, if_pos hw0]) HS.out)
                    have hwb2 : Sx.wb s[k] = false := by simpa using hwb
                    clear hw0 HE
                    go_wp2_with (go_at_call 42; refine (wordByte_any _ _).mono ?_; rintro e w' ⟨rfl, rfl⟩)
                    go_ret3
                    exact ParsePost.nil_of HF.out (by rw [HB.out]; exact (HR.out.alloc _).bel)
      · obtain ⟨ao, co, hvo⟩ := ownsRow_len HR.out.opn
        have HE := Lib.hid (prel_end HP.out hlt HS.out)
        subst hvo
        by_cases hop : op = []
        · have HF : Hid (parseT s = (its, 0, 0)) := Lib.hid (by rw [HE.out, if_pos hop])
          have hol : ¬ (0 : Int) < (op.length : Int) := by rw [hop]; simp
          clear hop
          go_wp2_with fail
          go_ret3
          exact ParsePost.of HF.out (by rw [HB.out]; exact HR.out.out) (by rw [HB.out]; exact HR.out.bel)
        · have HF : Hid (parseT s = ([], s.size, 2)) := Lib.hid (by rw [HE.out, if_neg hop])
          have hol : (0 : Int) < (op.length : Int) := by have := List.length_pos_iff.2 hop; omega
          clear hop
          go_wp2_with fail
          go_ret3
          exact ParsePost.nil_of HF.out (by rw [HB.out]; exact HR.out.bel)
end Go.Proofs.YtmmohhaolgblkaaDoor

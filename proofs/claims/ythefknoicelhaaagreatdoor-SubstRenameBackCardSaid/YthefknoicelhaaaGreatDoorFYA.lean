/- The reference's Compare at any two lists of nodes. -/
import Derived.Test.YthefknoicelhaaaGreatDoorFWV
import Derived.Test.YthefknoicelhaaaGreatDoorFShelf
namespace Go.Proofs.YthefknoicelhaaaGreatDoor.Se
open Go.RowKit Nmx

theorem ts_nil (b : List Nd) : tsCmp [] b = cmpI 0 b.length := by
  cases b with
  | nil => rfl
  | cons y b => show (-1 : Int) = cmpI 0 ((b.length + 1 : Nat) : Int); unfold cmpI; rw [if_pos (by omega)]
theorem ts_nil2 (a : List Nd) : tsCmp a [] = cmpI a.length 0 := by
  cases a with
  | nil => rfl
  | cons y b => show (1 : Int) = cmpI ((b.length + 1 : Nat) : Int) 0; unfold cmpI; rw [if_neg (by omega), if_pos (by omega)]
section
set_option maxHeartbeats 8000000
set_option maxRecDepth 100000
theorem refCompare_any (ax bx : Option Addr) (c1 c2 : Nat) (ta tb : List Nd) (w : World) (ha : NodesO w ax ta) (hb : NodesO w bx tb) (hla : ta.length ≤ 1000000) (hlb : tb.length ≤ 1000000) :
    Calls Tryz.prog 35 #[.slice ax ta.length c1, .slice bx tb.length c2] w fun e w' => e = .returned (.int .i64 (tsCmp ta tb)) ∧ Below w.heap.size w w' := by
  have HA := Lib.hid ha
  have HB := Lib.hid hb
  obtain ⟨n1, hn1⟩ : ∃ n, ta.length = n := ⟨_, rfl⟩
  obtain ⟨n2, hn2⟩ : ∃ n, tb.length = n := ⟨_, rfl⟩
  have HN1 := Lib.hid hn1
  have HN2 := Lib.hid hn2
  rw [hn1] at hla ⊢
  rw [hn2] at hlb ⊢
  clear ha hb hn1 hn2
  generalize hS : w.heap.size = S at *
  have HS := Lib.hid hS
  go_enter Tryz.func35, Tryz.ntmps35
  go_wp2
  go_loopw [5] (fun i wr => ∃ k : Nat, k ≤ n1 ∧ k ≤ n2 ∧ i = .int .i64 k ∧ tsCmp ta tb = tsCmp (ta.drop k) (tb.drop k) ∧ Below S w wr) (fun i _ => n1 - (intOf i).toNat)
  case atStart => exact ⟨0, Nat.zero_le _, Nat.zero_le _, rfl, rfl, Below.refl _ _⟩
  case round =>
    obtain ⟨k, hk1, hk2, rfl, hts, hbel⟩ := hrel
    have HT := Lib.hid hts
    have HBL := Lib.hid hbel
    have hsw : S ≤ wr.heap.size := by have := hbel.size; omega
    clear hts hbel
    by_cases h1 : k < n1
    · have h1I : (k : Int) < (n1 : Int) := by omega
      by_cases h2 : k < n2
      · have h2I : (k : Int) < (n2 : Int) := by omega
        have hk1l : k < ta.length := by rw [HN1.out]; exact h1
        have hk2l : k < tb.length := by rw [HN2.out]; exact h2
        obtain ⟨g1, off1, rfl, hl1, hc1⟩ := HA.out (by omega)
        obtain ⟨g2, off2, rfl, hl2, hc2⟩ := HB.out (by omega)
        have hx := hc1 k ta[k] (List.getElem?_eq_getElem hk1l)
        have hy := hc2 k tb[k] (List.getElem?_eq_getElem hk2l)
        have hst : tsCmp (ta.drop k) (tb.drop k) = if ndCmp ta[k] tb[k] = 0 then tsCmp (ta.drop (k + 1)) (tb.drop (k + 1)) else ndCmp ta[k] tb[k] := by
          rw [List.drop_eq_getElem_cons hk1l, List.drop_eq_getElem_cons hk2l]; rfl
        generalize ta[k] = x1 at *
        generalize tb[k] = x2 at *
        obtain ⟨op1, sort1, name1, num1, kids1⟩ := x1
        obtain ⟨op2, sort2, name2, num2, kids2⟩ := x2
        have hl1' : g1 < S := by have := HS.out; omega
        have hl2' : g2 < S := by have := HS.out; omega
        have HC : Hid (CN S g1 (off1 + k * 5) g2 (off2 + k * 5) op1 sort1 kids1 op2 sort2 kids2 name1 num1 name2 num2 w wr) := Lib.hid
          ⟨(HBL.out.cell (p := ⟨g1, off1 + k * 5, none⟩) hl1').trans (hx 0 (by decide)), (HBL.out.cell (p := ⟨g1, off1 + k * 5 + 1, none⟩) hl1').trans (hx 1 (by decide)), (HBL.out.cell (p := ⟨g1, off1 + k * 5 + 2, none⟩) hl1').trans (hx 2 (by decide)), (HBL.out.cell (p := ⟨g1, off1 + k * 5 + 3, none⟩) hl1').trans (hx 3 (by decide)), (HBL.out.cell (p := ⟨g1, off1 + k * 5 + 4, none⟩) hl1').trans (hx 4 (by decide)),
           (HBL.out.cell (p := ⟨g2, off2 + k * 5, none⟩) hl2').trans (hy 0 (by decide)), (HBL.out.cell (p := ⟨g2, off2 + k * 5 + 1, none⟩) hl2').trans (hy 1 (by decide)), (HBL.out.cell (p := ⟨g2, off2 + k * 5 + 2, none⟩) hl2').trans (hy 2 (by decide)), (HBL.out.cell (p := ⟨g2, off2 + k * 5 + 3, none⟩) hl2').trans (hy 3 (by decide)), (HBL.out.cell (p := ⟨g2, off2 + k * 5 + 4, none⟩) hl2').trans (hy 4 (by decide)), hl1', hl2', hsw, HBL.out⟩
        have HST := Lib.hid hst
        clear hx hy hst hc1 hc2 hl1 hl2 HBL hS
        go_upto_region 4 with fail
        refine add_region [[], [], [0, 1], [0, 1, 2], [], [], [4, 5], [4, 5, 6], [], [], [0, 1, 2, 3, 8, 9], [0, 1, 2, 3, 4, 5, 6, 7, 8, 9, 10]] (fun W => CN S g1 (off1 + k * 5) g2 (off2 + k * 5) op1 sort1 kids1 op2 sort2 kids2 name1 num1 name2 num2 w W) (fun W => CN S g1 (off1 + k * 5) g2 (off2 + k * 5) op1 sort1 kids1 op2 sort2 kids2 name1 num1 name2 num2 w W) ?_
        iterate 4
          apply a_con
          · intro x; go_simp; done
          · intro x W R hW hF hR
            obtain ⟨a0, a1, a2, a3, a4, b0, b1, b2, b3, b4, -, -, -, -⟩ := hW
            clear hF
            unfold addAt
            go_simp
            simp only [addUpon]
            exact hR _ (Below.refl _ _)
          simp only [Act.put, List.setIfInBounds_toArray, List.set_cons_zero, List.set_cons_succ]
        iterate 4
          apply a_weak
          · intro x; go_simp; done
          · intro x W R hW hF hR
            obtain ⟨a0, a1, a2, a3, a4, b0, b1, b2, b3, b4, -, -, -, -⟩ := hW
            clear hF
            unfold addAt
            go_simp
            simp only [addUpon]
            exact hR _ (Below.refl _ _)
          simp only [Act.put, List.setIfInBounds_toArray, List.set_cons_zero, List.set_cons_succ]
        refine a_new (fun B W => W.heap[B]? = some (.cells #[.int .i64 0, .int .i64 0, .string ⟨#[]⟩, .string ⟨#[]⟩, .int .i64 0] 51 (0, 0)) ∧ S ≤ B) (fun _ _ _ h hb => ⟨(hb.block _ (lt_of_heap h.1)).trans h.1, h.2⟩) ?_ ?_ ?_
        · intro x; go_simp; done
        · intro x W R hW hF hR
          clear hF
          unfold addAt
          go_simp
          simp only [addUpon]
          exact hR _ ⟨heap_alloc_new W _, hW.ls⟩ (alloc_far' W _) (by simp)
        simp only [Act.put, List.setIfInBounds_toArray, List.set_cons_zero, List.set_cons_succ, List.length_cons, List.length_nil, Nat.zero_add, Nat.reduceAdd]
        refine a_new (fun B W => W.heap[B]? = some (.cells #[.int .i64 0, .int .i64 0, .string ⟨#[]⟩, .string ⟨#[]⟩, .int .i64 0] 51 (0, 0)) ∧ S ≤ B) (fun _ _ _ h hb => ⟨(hb.block _ (lt_of_heap h.1)).trans h.1, h.2⟩) ?_ ?_ ?_
        · intro x; go_simp; done
        · intro x W R hW hF hR
          clear hF
          unfold addAt
          go_simp
          simp only [addUpon]
          exact hR _ ⟨heap_alloc_new W _, hW.ls⟩ (alloc_far' W _) (by simp)
        simp only [Act.put, List.setIfInBounds_toArray, List.set_cons_zero, List.set_cons_succ, List.length_cons, List.length_nil, Nat.zero_add, Nat.reduceAdd]
        refine a_wrt (fun x W => ∃ B6 B7, x 8 = .pointer (some ⟨B6, 0, none⟩) ∧ x 9 = .pointer (some ⟨B7, 0, none⟩) ∧ B6 ≠ B7 ∧ S ≤ B6 ∧ S ≤ B7 ∧ W.heap[B6]? = some (.cells #[.int .i64 op1, .int .i64 sort1, .string name1, .string num1, .int .i64 kids1] 51 (0, 0)) ∧ W.heap[B7]? = some (.cells #[.int .i64 0, .int .i64 0, .string ⟨#[]⟩, .string ⟨#[]⟩, .int .i64 0] 51 (0, 0)) ∧ CN S g1 (off1 + k * 5) g2 (off2 + k * 5) op1 sort1 kids1 op2 sort2 kids2 name1 num1 name2 num2 w W) (fun _ _ _ h hb => let ⟨B6, B7, h1, h2, h3, h4, h5, h6, h7, h8⟩ := h; ⟨B6, B7, h1, h2, h3, h4, h5, (hb.block _ (lt_of_heap h6)).trans h6, (hb.block _ (lt_of_heap h7)).trans h7, h8.keep (hb.mono h8.ls)⟩) (fun x x' w h hT => by have e8 := h 8 (.inr (List.contains_iff_mem.1 rfl)); have e9 := h 9 (.inr (List.contains_iff_mem.1 rfl)); rw [e8, e9] at hT; exact hT) ?_ ?_ ?_
        · intro x; go_simp; done
        · intro x W R hW hF hD hR
          obtain ⟨B7, hx9, h7, s7⟩ := hF.1.2 rfl rfl rfl
          obtain ⟨B6, hx8, h6, s6⟩ := hF.2.1.2 rfl rfl rfl
          have hx9' : x 9 = .pointer (some ⟨B7, 0, none⟩) := hx9
          have hx8' : x 8 = .pointer (some ⟨B6, 0, none⟩) := hx8
          have hne : B6 ≠ B7 := fun e => hD 8 9 (List.contains_iff_mem.1 rfl) (List.contains_iff_mem.1 rfl) (by decide) rfl rfl (by rw [hx8', hx9', e])
          clear hF hD hx8 hx9
          simp only [hx8']
          have f0 := heap_cell h6 0
          have fz0 := heap_fz h6 0
          have f1 := heap_cell h6 1
          have fz1 := heap_fz h6 1
          have f2 := heap_cell h6 2
          have fz2 := heap_fz h6 2
          have f3 := heap_cell h6 3
          have fz3 := heap_fz h6 3
          have f4 := heap_cell h6 4
          have fz4 := heap_fz h6 4
          have hW2 := hW.keep (below_set5 (Below.refl S W) s6 (.int .i64 op1) (.int .i64 sort1) (.string name1) (.string num1) (.int .i64 kids1))
          have h62 := same_set5 h6 (.int .i64 op1) (.int .i64 sort1) (.string name1) (.string num1) (.int .i64 kids1)
          have h72 := other_set5 h7 (Ne.symm hne) (.int .i64 op1) (.int .i64 sort1) (.string name1) (.string num1) (.int .i64 kids1)
          unfold addAt
          go_simp
          simp only [addUpon]
          refine hR _ _ ?_ hW2 (by simp [World.setCell])
          refine ⟨B6, B7, ?_, ?_, hne, s6, s7, h62, h72, hW2⟩
          · show updX x 10 _ 8 = _
            rw [updX_ne (i := 10) (j := 8) _ _ (by decide), hx8']
          · show updX x 10 _ 9 = _
            rw [updX_ne (i := 10) (j := 9) _ _ (by decide), hx9']
        simp only [Act.put]
        refine a_wrt2 (fun x W => ∃ B6 B7, x 8 = .pointer (some ⟨B6, 0, none⟩) ∧ x 9 = .pointer (some ⟨B7, 0, none⟩) ∧ B6 ≠ B7 ∧ S ≤ B6 ∧ S ≤ B7 ∧ W.heap[B6]? = some (.cells #[.int .i64 op1, .int .i64 sort1, .string name1, .string num1, .int .i64 kids1] 51 (0, 0)) ∧ W.heap[B7]? = some (.cells #[.int .i64 op2, .int .i64 sort2, .string name2, .string num2, .int .i64 kids2] 51 (0, 0)) ∧ CN S g1 (off1 + k * 5) g2 (off2 + k * 5) op1 sort1 kids1 op2 sort2 kids2 name1 num1 name2 num2 w W) (fun _ _ _ h hb => let ⟨B6, B7, h1, h2, h3, h4, h5, h6, h7, h8⟩ := h; ⟨B6, B7, h1, h2, h3, h4, h5, (hb.block _ (lt_of_heap h6)).trans h6, (hb.block _ (lt_of_heap h7)).trans h7, h8.keep (hb.mono h8.ls)⟩) (fun x x' w h hT => by have e8 := h 8 (.inr (List.contains_iff_mem.1 rfl)); have e9 := h 9 (.inr (List.contains_iff_mem.1 rfl)); rw [e8, e9] at hT; exact hT) ?_ ?_ ?_
        · intro x; go_simp; done
        · intro x W R hW hF hD hR
          obtain ⟨B6, B7, hx8', hx9', hne, s6, s7, h6, h7, hcn⟩ := hF.1.2 rfl rfl rfl
          clear hF hD
          simp only [hx9']
          have f0 := heap_cell h7 0
          have fz0 := heap_fz h7 0
          have f1 := heap_cell h7 1
          have fz1 := heap_fz h7 1
          have f2 := heap_cell h7 2
          have fz2 := heap_fz h7 2
          have f3 := heap_cell h7 3
          have fz3 := heap_fz h7 3
          have f4 := heap_cell h7 4
          have fz4 := heap_fz h7 4
          have hW2 := hcn.keep (below_set5 (Below.refl S W) s7 (.int .i64 op2) (.int .i64 sort2) (.string name2) (.string num2) (.int .i64 kids2))
          have h72 := same_set5 h7 (.int .i64 op2) (.int .i64 sort2) (.string name2) (.string num2) (.int .i64 kids2)
          have h62 := other_set5 h6 hne (.int .i64 op2) (.int .i64 sort2) (.string name2) (.string num2) (.int .i64 kids2)
          unfold addAt
          go_simp
          simp only [addUpon]
          refine hR _ _ ?_ hW2 (by simp [World.setCell])
          refine ⟨B6, B7, ?_, ?_, hne, s6, s7, h62, h72, hW2⟩
          · show updX x 11 _ 8 = _
            rw [updX_ne (i := 11) (j := 8) _ _ (by decide), hx8']
          · show updX x 11 _ 9 = _
            rw [updX_ne (i := 11) (j := 9) _ _ (by decide), hx9']
        simp only [Act.put]
        refine a_nil (by kernel_rfl) (by kernel_rfl) (by kernel_rfl) (fun _ _ h hb => h.keep (hb.mono h.ls)) (fun _ _ h hb => h.keep (hb.mono h.ls)) (fun _ h => h) (HC.out.keep (Below.refl S wr).drew) ?_
        intro x W hE hW hF hD
        clear hD
        obtain ⟨B6, B7, hx8, hx9, hne, s6, s7, h6, h7, hcn⟩ := hF.1.2 rfl
        have H6 := Lib.hid h6
        have H7 := Lib.hid h7
        have hls := hcn.ls
        have HB4 := Lib.hid hcn.bel
        clear hF hW hne h6 h7 hcn
        simp only [hx8, hx9]
        clear hx8 hx9
        have HK0 := fun W : World => cmpA_any op1 op2 W
        have HK1 := fun W : World => cmpA_any sort1 sort2 W
        have HK2 := fun W : World => cmpText_any name1 name2 W
        have HK3 := fun W : World => cmpText_any num1 num2 W
        have HK4 := fun W : World => cmpA_any kids1 kids2 W
        have hnd : ndCmp ⟨op1, sort1, name1, num1, kids1⟩ ⟨op2, sort2, name2, num2, kids2⟩ = firstN [cmpI op1 op2, cmpI sort1 sort2, cmpS name1 name2, cmpS num1 num2, cmpI kids1 kids2] := rfl
        generalize cmpI op1 op2 = k0 at *
        generalize cmpI sort1 sort2 = k1 at *
        generalize cmpS name1 name2 = k2 at *
        generalize cmpS num1 num2 = k3 at *
        generalize cmpI kids1 kids2 = k4 at *
        have HND := Lib.hid hnd
        clear hnd
        generalize W = w4 at *
        go_upto_region 5 with fail
        refine add_region [[], [0], [], [2], [0, 1, 2, 3], [], [5], [], [7], [0, 1, 2, 3, 4, 5, 6, 7, 8], [], [10], [], [12], [0, 1, 2, 3, 4, 5, 6, 7, 8, 9, 10, 11, 12, 13], [], [15], [], [17], [0, 1, 2, 3, 4, 5, 6, 7, 8, 9, 10, 11, 12, 13, 14, 15, 16, 17, 18], [], [20], [], [22], [0, 1, 2, 3, 4, 5, 6, 7, 8, 9, 10, 11, 12, 13, 14, 15, 16, 17, 18, 19, 20, 21, 22, 23], [0, 1, 2, 3, 4, 5, 6, 7, 8, 9, 10, 11, 12, 13, 14, 15, 16, 17, 18, 19, 20, 21, 22, 23, 24], [], [0, 1, 2, 3, 4, 5, 6, 7, 8, 9, 10, 11, 12, 13, 14, 15, 16, 17, 18, 19, 20, 21, 22, 23, 24, 25, 26]] (fun W => W.heap[B6]? = some (.cells #[.int .i64 op1, .int .i64 sort1, .string name1, .string num1, .int .i64 kids1] 51 (0, 0)) ∧ W.heap[B7]? = some (.cells #[.int .i64 op2, .int .i64 sort2, .string name2, .string num2, .int .i64 kids2] 51 (0, 0)) ∧ S ≤ W.heap.size ∧ Below S w W) (fun _ => True) ?_
        iterate 4
          apply a_con
          · intro x; go_simp; done
          · intro x W R hW hF hR
            have p0 := heap_cell hW.1 0
            have q0 := heap_cell hW.2.1 0
            have p1 := heap_cell hW.1 1
            have q1 := heap_cell hW.2.1 1
            have p2 := heap_cell hW.1 2
            have q2 := heap_cell hW.2.1 2
            have p3 := heap_cell hW.1 3
            have q3 := heap_cell hW.2.1 3
            have p4 := heap_cell hW.1 4
            have q4 := heap_cell hW.2.1 4
            clear hF
            unfold addAt
            go_simp
            simp only [addUpon]
            exact hR _ (Below.refl _ _)
          simp only [Act.put, List.setIfInBounds_toArray, List.set_cons_zero, List.set_cons_succ]
        apply a_con
        · intro x; go_simp; done
        · intro x W R hW hF hR
          have p0 := heap_cell hW.1 0
          have q0 := heap_cell hW.2.1 0
          have p1 := heap_cell hW.1 1
          have q1 := heap_cell hW.2.1 1
          have p2 := heap_cell hW.1 2
          have q2 := heap_cell hW.2.1 2
          have p3 := heap_cell hW.1 3
          have q3 := heap_cell hW.2.1 3
          have p4 := heap_cell hW.1 4
          have q4 := heap_cell hW.2.1 4
          clear hF
          unfold addAt
          go_simp
          simp only [addUpon]
          refine (HK0 W).mono ?_
          rintro e w4 ⟨rfl, rfl⟩
          exact ⟨_, rfl, hR _ (Below.refl _ _)⟩
        simp only [Act.put, List.setIfInBounds_toArray, List.set_cons_zero, List.set_cons_succ]
        iterate 4
          apply a_con
          · intro x; go_simp; done
          · intro x W R hW hF hR
            have p0 := heap_cell hW.1 0
            have q0 := heap_cell hW.2.1 0
            have p1 := heap_cell hW.1 1
            have q1 := heap_cell hW.2.1 1
            have p2 := heap_cell hW.1 2
            have q2 := heap_cell hW.2.1 2
            have p3 := heap_cell hW.1 3
            have q3 := heap_cell hW.2.1 3
            have p4 := heap_cell hW.1 4
            have q4 := heap_cell hW.2.1 4
            clear hF
            unfold addAt
            go_simp
            simp only [addUpon]
            exact hR _ (Below.refl _ _)
          simp only [Act.put, List.setIfInBounds_toArray, List.set_cons_zero, List.set_cons_succ]
        apply a_con
        · intro x; go_simp; done
        · intro x W R hW hF hR
          have p0 := heap_cell hW.1 0
          have q0 := heap_cell hW.2.1 0
          have p1 := heap_cell hW.1 1
          have q1 := heap_cell hW.2.1 1
          have p2 := heap_cell hW.1 2
          have q2 := heap_cell hW.2.1 2
          have p3 := heap_cell hW.1 3
          have q3 := heap_cell hW.2.1 3
          have p4 := heap_cell hW.1 4
          have q4 := heap_cell hW.2.1 4
          clear hF
          unfold addAt
          go_simp
          simp only [addUpon]
          refine (HK1 W).mono ?_
          rintro e w4 ⟨rfl, rfl⟩
          exact ⟨_, rfl, hR _ (Below.refl _ _)⟩
        simp only [Act.put, List.setIfInBounds_toArray, List.set_cons_zero, List.set_cons_succ]
        iterate 4
          apply a_con
          · intro x; go_simp; done
          · intro x W R hW hF hR
            have p0 := heap_cell hW.1 0
            have q0 := heap_cell hW.2.1 0
            have p1 := heap_cell hW.1 1
            have q1 := heap_cell hW.2.1 1
            have p2 := heap_cell hW.1 2
            have q2 := heap_cell hW.2.1 2
            have p3 := heap_cell hW.1 3
            have q3 := heap_cell hW.2.1 3
            have p4 := heap_cell hW.1 4
            have q4 := heap_cell hW.2.1 4
            clear hF
            unfold addAt
            go_simp
            simp only [addUpon]
            exact hR _ (Below.refl _ _)
          simp only [Act.put, List.setIfInBounds_toArray, List.set_cons_zero, List.set_cons_succ]
        apply a_con
        · intro x; go_simp; done
        · intro x W R hW hF hR
          have p0 := heap_cell hW.1 0
          have q0 := heap_cell hW.2.1 0
          have p1 := heap_cell hW.1 1
          have q1 := heap_cell hW.2.1 1
          have p2 := heap_cell hW.1 2
          have q2 := heap_cell hW.2.1 2
          have p3 := heap_cell hW.1 3
          have q3 := heap_cell hW.2.1 3
          have p4 := heap_cell hW.1 4
          have q4 := heap_cell hW.2.1 4
          clear hF
          unfold addAt
          go_simp
          simp only [addUpon]
          refine (HK2 W).mono ?_
          rintro e w4 ⟨rfl, rfl⟩
          exact ⟨_, rfl, hR _ (Below.refl _ _)⟩
        simp only [Act.put, List.setIfInBounds_toArray, List.set_cons_zero, List.set_cons_succ]
        iterate 4
          apply a_con
          · intro x; go_simp; done
          · intro x W R hW hF hR
            have p0 := heap_cell hW.1 0
            have q0 := heap_cell hW.2.1 0
            have p1 := heap_cell hW.1 1
            have q1 := heap_cell hW.2.1 1
            have p2 := heap_cell hW.1 2
            have q2 := heap_cell hW.2.1 2
            have p3 := heap_cell hW.1 3
            have q3 := heap_cell hW.2.1 3
            have p4 := heap_cell hW.1 4
            have q4 := heap_cell hW.2.1 4
            clear hF
            unfold addAt
            go_simp
            simp only [addUpon]
            exact hR _ (Below.refl _ _)
          simp only [Act.put, List.setIfInBounds_toArray, List.set_cons_zero, List.set_cons_succ]
        apply a_con
        · intro x; go_simp; done
        · intro x W R hW hF hR
          have p0 := heap_cell hW.1 0
          have q0 := heap_cell hW.2.1 0
          have p1 := heap_cell hW.1 1
          have q1 := heap_cell hW.2.1 1
          have p2 := heap_cell hW.1 2
          have q2 := heap_cell hW.2.1 2
          have p3 := heap_cell hW.1 3
          have q3 := heap_cell hW.2.1 3
          have p4 := heap_cell hW.1 4
          have q4 := heap_cell hW.2.1 4
          clear hF
          unfold addAt
          go_simp
          simp only [addUpon]
          refine (HK3 W).mono ?_
          rintro e w4 ⟨rfl, rfl⟩
          exact ⟨_, rfl, hR _ (Below.refl _ _)⟩
        simp only [Act.put, List.setIfInBounds_toArray, List.set_cons_zero, List.set_cons_succ]
        iterate 4
          apply a_con
          · intro x; go_simp; done
          · intro x W R hW hF hR
            have p0 := heap_cell hW.1 0
            have q0 := heap_cell hW.2.1 0
            have p1 := heap_cell hW.1 1
            have q1 := heap_cell hW.2.1 1
            have p2 := heap_cell hW.1 2
            have q2 := heap_cell hW.2.1 2
            have p3 := heap_cell hW.1 3
            have q3 := heap_cell hW.2.1 3
            have p4 := heap_cell hW.1 4
            have q4 := heap_cell hW.2.1 4
            clear hF
            unfold addAt
            go_simp
            simp only [addUpon]
            exact hR _ (Below.refl _ _)
          simp only [Act.put, List.setIfInBounds_toArray, List.set_cons_zero, List.set_cons_succ]
        apply a_con
        · intro x; go_simp; done
        · intro x W R hW hF hR
          have p0 := heap_cell hW.1 0
          have q0 := heap_cell hW.2.1 0
          have p1 := heap_cell hW.1 1
          have q1 := heap_cell hW.2.1 1
          have p2 := heap_cell hW.1 2
          have q2 := heap_cell hW.2.1 2
          have p3 := heap_cell hW.1 3
          have q3 := heap_cell hW.2.1 3
          have p4 := heap_cell hW.1 4
          have q4 := heap_cell hW.2.1 4
          clear hF
          unfold addAt
          go_simp
          simp only [addUpon]
          refine (HK4 W).mono ?_
          rintro e w4 ⟨rfl, rfl⟩
          exact ⟨_, rfl, hR _ (Below.refl _ _)⟩
        simp only [Act.put, List.setIfInBounds_toArray, List.set_cons_zero, List.set_cons_succ]
        apply a_con
        · intro x; go_simp; done
        · intro x W R hW hF hR
          have p0 := heap_cell hW.1 0
          have q0 := heap_cell hW.2.1 0
          have p1 := heap_cell hW.1 1
          have q1 := heap_cell hW.2.1 1
          have p2 := heap_cell hW.1 2
          have q2 := heap_cell hW.2.1 2
          have p3 := heap_cell hW.1 3
          have q3 := heap_cell hW.2.1 3
          have p4 := heap_cell hW.1 4
          have q4 := heap_cell hW.2.1 4
          clear hF
          unfold addAt
          go_simp
          simp only [addUpon]
          exact hR _ (Below.refl _ _)
        simp only [Act.put, List.setIfInBounds_toArray, List.set_cons_zero, List.set_cons_succ]
        refine a_new (fun B W => W.heap[B]? = some (.cells #[.int .i64 0, .int .i64 0, .int .i64 0, .int .i64 0, .int .i64 0] 102 (0, 0)) ∧ S ≤ B) (fun _ _ _ h hb => ⟨(hb.block _ (lt_of_heap h.1)).trans h.1, h.2⟩) ?_ ?_ ?_
        · intro x; go_simp; done
        · intro x W R hW hF hR
          clear hF
          unfold addAt
          go_simp
          simp only [addUpon]
          exact hR _ ⟨heap_alloc_new W _, hW.2.2.1⟩ (alloc_far' W _) (by simp)
        simp only [Act.put, List.setIfInBounds_toArray, List.set_cons_zero, List.set_cons_succ, List.length_cons, List.length_nil, Nat.zero_add, Nat.reduceAdd]
        refine a_wrt (fun x W => ∃ B8, x 26 = .pointer (some ⟨B8, 0, none⟩) ∧ W.heap[B8]? = some (.cells #[.int .i64 k0, .int .i64 k1, .int .i64 k2, .int .i64 k3, .int .i64 k4] 102 (0, 0)) ∧ Below S w W ∧ S ≤ W.heap.size) (fun _ _ _ h hb => let ⟨B8, h1, h2, h3, h4⟩ := h; ⟨B8, h1, (hb.block _ (lt_of_heap h2)).trans h2, h3.trans (hb.mono h4), Nat.le_trans h4 hb.size⟩) (fun x x' w h hT => by have e8 := h 26 (.inr (List.contains_iff_mem.1 rfl)); rw [e8] at hT; exact hT) ?_ ?_ ?_
        · intro x; go_simp; done
        · intro x W R hW hF hD hR
          obtain ⟨B8, hx26, h8, s8⟩ := hF.1.2 rfl rfl rfl
          have hx26' : x 26 = .pointer (some ⟨B8, 0, none⟩) := hx26
          clear hF hD hx26
          simp only [hx26']
          have f0 := heap_cell h8 0
          have fz0 := heap_fz h8 0
          have f1 := heap_cell h8 1
          have fz1 := heap_fz h8 1
          have f2 := heap_cell h8 2
          have fz2 := heap_fz h8 2
          have f3 := heap_cell h8 3
          have fz3 := heap_fz h8 3
          have f4 := heap_cell h8 4
          have fz4 := heap_fz h8 4
          have hW2 := below_set5 hW.2.2.2 s8 (.int .i64 k0) (.int .i64 k1) (.int .i64 k2) (.int .i64 k3) (.int .i64 k4)
          have h82 := same_set5 h8 (.int .i64 k0) (.int .i64 k1) (.int .i64 k2) (.int .i64 k3) (.int .i64 k4)
          have hs2 := hW.2.2.1
          unfold addAt
          go_simp
          simp only [addUpon]
          refine hR _ _ ?_ trivial (by simp [World.setCell])
          refine ⟨B8, ?_, h82, hW2, by simpa [World.setCell] using hs2⟩
          show updX x 27 _ 26 = _
          rw [updX_ne (i := 27) (j := 26) _ _ (by decide), hx26']
        simp only [Act.put]
        refine a_nil (by kernel_rfl) (by kernel_rfl) (by kernel_rfl) (fun _ _ h hb => ⟨(hb.block _ (lt_of_heap h.1)).trans h.1, (hb.block _ (lt_of_heap h.2.1)).trans h.2.1, Nat.le_trans h.2.2.1 hb.size, h.2.2.2.trans (hb.mono h.2.2.1)⟩) (fun _ _ _ _ => trivial) (fun _ _ => trivial) (⟨H6.out, H7.out, hls, HB4.out.trans ((Below.refl _ _).drew)⟩) ?_
        intro x W hE hW hF hD
        clear hD
        obtain ⟨B8, hx26, h8, hb8, hs8⟩ := hF.1.2 rfl
        have z0 := heap_cell h8 0
        have z1 := heap_cell h8 1
        have z2 := heap_cell h8 2
        have z3 := heap_cell h8 3
        have z4 := heap_cell h8 4
        have HB8 := Lib.hid hb8
        clear hF hW h8 hb8 HK0 HK1 HK2 HK3 HK4
        simp only [hx26]
        clear hx26
        go_wp2
        go_loop [9] (fun i => ∃ q : Nat, q ≤ 5 ∧ i = .int .i64 q ∧ firstN [k0, k1, k2, k3, k4] = firstN ([k0, k1, k2, k3, k4].drop q)) (fun i => 5 - (intOf i).toNat)
        case atStart => exact ⟨0, Nat.zero_le _, rfl, rfl⟩
        case round =>
          obtain ⟨q, hq, rfl, hfn⟩ := hrel
          have HFN := Lib.hid hfn
          clear hfn
          have hq6 : q = 0 ∨ q = 1 ∨ q = 2 ∨ q = 3 ∨ q = 4 ∨ q = 5 := by omega
          rcases hq6 with rfl | rfl | rfl | rfl | rfl | rfl
          · by_cases hz : k0 = 0
            · have HF2 : Hid (firstN [k0, k1, k2, k3, k4] = firstN ([k0, k1, k2, k3, k4].drop 1)) := Lib.hid (by
                rw [HFN.out]; show (if k0 = 0 then firstN [k1, k2, k3, k4] else k0) = firstN [k1, k2, k3, k4]; rw [if_pos hz])
              clear HFN
              go_wp2
              go_round
              case rel => exact ⟨1, by omega, rfl, HF2.out⟩
              case measure => simp [intOf]
            · have HR : Hid (tsCmp ta tb = k0) := Lib.hid (by
                have hf : ndCmp ⟨op1, sort1, name1, num1, kids1⟩ ⟨op2, sort2, name2, num2, kids2⟩ = k0 := by
                  rw [HND.out, HFN.out]; show (if k0 = 0 then firstN [k1, k2, k3, k4] else k0) = k0; rw [if_neg hz]
                rw [HT.out, HST.out, hf, if_neg hz])
              have hzf : (k0 == 0) = false := by simp [hz]
              clear HFN HND HST HT
              go_wp2
              go_ret
              exact ⟨by rw [HR.out]; rfl, HB8.out⟩
          · by_cases hz : k1 = 0
            · have HF2 : Hid (firstN [k0, k1, k2, k3, k4] = firstN ([k0, k1, k2, k3, k4].drop 2)) := Lib.hid (by
                rw [HFN.out]; show (if k1 = 0 then firstN [k2, k3, k4] else k1) = firstN [k2, k3, k4]; rw [if_pos hz])
              clear HFN
              go_wp2
              go_round
              case rel => exact ⟨2, by omega, rfl, HF2.out⟩
              case measure => simp [intOf]
            · have HR : Hid (tsCmp ta tb = k1) := Lib.hid (by
                have hf : ndCmp ⟨op1, sort1, name1, num1, kids1⟩ ⟨op2, sort2, name2, num2, kids2⟩ = k1 := by
                  rw [HND.out, HFN.out]; show (if k1 = 0 then firstN [k2, k3, k4] else k1) = k1; rw [if_neg hz]
                rw [HT.out, HST.out, hf, if_neg hz])
              have hzf : (k1 == 0) = false := by simp [hz]
              clear HFN HND HST HT
              go_wp2
              go_ret
              exact ⟨by rw [HR.out]; rfl, HB8.out⟩
          · by_cases hz : k2 = 0
            · have HF2 : Hid (firstN [k0, k1, k2, k3, k4] = firstN ([k0, k1, k2, k3, k4].drop 3)) := Lib.hid (by
                rw [HFN.out]; show (if k2 = 0 then firstN [k3, k4] else k2) = firstN [k3, k4]; rw [if_pos hz])
              clear HFN
              go_wp2
              go_round
              case rel => exact ⟨3, by omega, rfl, HF2.out⟩
              case measure => simp [intOf]
            · have HR : Hid (tsCmp ta tb = k2) := Lib.hid (by
                have hf : ndCmp ⟨op1, sort1, name1, num1, kids1⟩ ⟨op2, sort2, name2, num2, kids2⟩ = k2 := by
                  rw [HND.out, HFN.out]; show (if k2 = 0 then firstN [k3, k4] else k2) = k2; rw [if_neg hz]
                rw [HT.out, HST.out, hf, if_neg hz])
              have hzf : (k2 == 0) = false := by simp [hz]
              clear HFN HND HST HT
              go_wp2
              go_ret
              exact ⟨by rw [HR.out]; rfl, HB8.out⟩
          · by_cases hz : k3 = 0
            · have HF2 : Hid (firstN [k0, k1, k2, k3, k4] = firstN ([k0, k1, k2, k3, k4].drop 4)) := Lib.hid (by
                rw [HFN.out]; show (if k3 = 0 then firstN [k4] else k3) = firstN [k4]; rw [if_pos hz])
              clear HFN
              go_wp2
              go_round
              case rel => exact ⟨4, by omega, rfl, HF2.out⟩
              case measure => simp [intOf]
            · have HR : Hid (tsCmp ta tb = k3) := Lib.hid (by
                have hf : ndCmp ⟨op1, sort1, name1, num1, kids1⟩ ⟨op2, sort2, name2, num2, kids2⟩ = k3 := by
                  rw [HND.out, HFN.out]; show (if k3 = 0 then firstN [k4] else k3) = k3; rw [if_neg hz]
                rw [HT.out, HST.out, hf, if_neg hz])
              have hzf : (k3 == 0) = false := by simp [hz]
              clear HFN HND HST HT
              go_wp2
              go_ret
              exact ⟨by rw [HR.out]; rfl, HB8.out⟩
          · by_cases hz : k4 = 0
            · have HF2 : Hid (firstN [k0, k1, k2, k3, k4] = firstN ([k0, k1, k2, k3, k4].drop 5)) := Lib.hid (by
                rw [HFN.out]; show (if k4 = 0 then firstN [] else k4) = firstN []; rw [if_pos hz])
              clear HFN
              go_wp2
              go_round
              case rel => exact ⟨5, by omega, rfl, HF2.out⟩
              case measure => simp [intOf]
            · have HR : Hid (tsCmp ta tb = k4) := Lib.hid (by
                have hf : ndCmp ⟨op1, sort1, name1, num1, kids1⟩ ⟨op2, sort2, name2, num2, kids2⟩ = k4 := by
                  rw [HND.out, HFN.out]; show (if k4 = 0 then firstN [] else k4) = k4; rw [if_neg hz]
                rw [HT.out, HST.out, hf, if_neg hz])
              have hzf : (k4 == 0) = false := by simp [hz]
              clear HFN HND HST HT
              go_wp2
              go_ret
              exact ⟨by rw [HR.out]; rfl, HB8.out⟩
          · have HZ : Hid (tsCmp ta tb = tsCmp (ta.drop (k + 1)) (tb.drop (k + 1))) := Lib.hid (by
              rw [HT.out, HST.out, if_pos]
              rw [HND.out, HFN.out]; rfl)
            clear HFN HND HST
            go_wp2
            go_roundw
            case rel => exact ⟨k + 1, by omega, by omega, by go_num, HZ.out, HB8.out⟩
            case measure => simp [intOf]; omega
      · have hke : k = n2 := by omega
        subst hke
        have hdr : tb.drop k = [] := List.drop_of_length_le (by rw [HN2.out]; exact Nat.le_refl _)
        have HR : Hid (tsCmp ta tb = cmpI n1 k) := Lib.hid (by
          rw [HT.out, hdr, ts_nil2, List.length_drop, HN1.out]; unfold cmpI; rw [if_neg (by omega), if_pos (by omega), if_neg (by omega), if_pos (by omega)])
        clear hdr HT hS
        go_wp2_with fail
        refine (cmpA_any _ _ _).mono ?_
        rintro e w9 ⟨rfl, rfl⟩
        go_wp2
        go_ret
        exact ⟨by rw [HR.out]; rfl, HBL.out⟩
    · have hke : k = n1 := by omega
      subst hke
      have hdr : ta.drop k = [] := List.drop_of_length_le (by rw [HN1.out]; exact Nat.le_refl _)
      have HR : Hid (tsCmp ta tb = cmpI k n2) := Lib.hid (by
        rw [HT.out, hdr, ts_nil, List.length_drop, HN2.out]; unfold cmpI
        by_cases hlt : k < n2
        · rw [if_pos (by omega), if_pos (by omega)]
        · rw [if_neg (by omega), if_neg (by omega), if_neg (by omega), if_neg (by omega)])
      clear hdr HT hS
      go_wp2_with fail
      refine (cmpA_any _ _ _).mono ?_
      rintro e w9 ⟨rfl, rfl⟩
      go_wp2
      go_ret
      exact ⟨by rw [HR.out]; rfl, HBL.out⟩
end
end Go.Proofs.YthefknoicelhaaaGreatDoor.Se
/- Order: cmp.Compare, cmp.Or, comparison of bytes. -/
namespace Go.Proofs.YthefknoicelhaaaGreatDoor.Se
open Go.RowKit Nmx

end Go.Proofs.YthefknoicelhaaaGreatDoor.Se
/- The program's compareNodes and Compare. -/
namespace Go.Proofs.YthefknoicelhaaaGreatDoor.Se
open Go.RowKit Nmx


end Go.Proofs.YthefknoicelhaaaGreatDoor.Se
/- The program's Compare at any two lists of nodes; Equal of the reference. -/
namespace Go.Proofs.YthefknoicelhaaaGreatDoor.Se
open Go.RowKit Nmx

section
set_option maxHeartbeats 8000000
set_option maxRecDepth 100000


theorem refEqual_any (ax bx : Option Addr) (c1 c2 : Nat) (ta tb : List Nd) (w : World) (ha : NodesO w ax ta) (hb : NodesO w bx tb) (hla : ta.length ≤ 1000000) (hlb : tb.length ≤ 1000000) :
    Calls Tryz.prog 13 #[.slice ax ta.length c1, .slice bx tb.length c2] w fun e w' => e = .returned (.bool (tsCmp ta tb == 0)) ∧ Below w.heap.size w w' := by
  have h := refCompare_any ax bx c1 c2 ta tb w ha hb hla hlb
  clear ha hb
  generalize ta.length = n1 at *
  generalize tb.length = n2 at *
  go_enter Tryz.func13, Tryz.ntmps13
  go_wp2_with fail
  refine h.mono ?_
  rintro e w9 ⟨rfl, hb9⟩
  have HB := Lib.hid hb9
  clear h hb9
  go_wp2
  go_ret
  exact ⟨rfl, HB.out⟩
end
end Go.Proofs.YthefknoicelhaaaGreatDoor.Se

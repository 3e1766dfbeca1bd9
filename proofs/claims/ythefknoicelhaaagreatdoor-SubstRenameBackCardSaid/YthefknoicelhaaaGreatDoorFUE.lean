/- The sort of a sum or a product. -/
import Derived.Test.YthefknoicelhaaaGreatDoorFUD
import Derived.Test.YthefknoicelhaaaGreatDoorFLS
namespace Go.Proofs.YthefknoicelhaaaGreatDoor.Se
open Go.RowKit

/-- what every world of the region keeps -/
structure RX (S g n cap : Nat) (l : List Int) (w W : World) : Prop where
  row : RowI W (some ⟨g, 0, none⟩) g l
  hd : W.cell? ⟨g, 0, none⟩ = some (.int .i64 (l.getD 0 0))
  box : W.cell? ⟨S + 1, 0, none⟩ = some (.slice (some ⟨g, 0, none⟩) n cap)
  lt : S + 1 < W.heap.size
  bel : Below S w W
theorem RX.far {S g n cap : Nat} {l : List Int} {w W W' : World} (h : RX S g n cap l w W) (hb : Below W.heap.size W W') : RX S g n cap l w W' :=
  ⟨h.row.far hb, (hb.cell (p := ⟨g, 0, none⟩) h.row.lt).trans h.hd, (hb.cell (p := ⟨S + 1, 0, none⟩) h.lt).trans h.box, Nat.lt_of_lt_of_le h.lt hb.size, h.bel.trans (hb.mono (by have := h.lt; omega))⟩
theorem RX.drew {S g n cap : Nat} {l : List Int} {w W : World} (h : RX S g n cap l w W) : RX S g n cap l w W.drew :=
  ⟨⟨h.row.at0, h.row.lt, h.row.few, h.row.cell⟩, h.hd, h.box, h.lt, below_draws h.bel 1⟩
section
set_option maxHeartbeats 4000000
set_option maxRecDepth 100000
theorem rs_c14 {K : Int} (hK : K = 14 ∨ K = 15) (sort kids : Int) (name num : ByteArray) (ao : Option Addr) (g cap : Nat) (l : List Int) (w : World) (hr : RowI w ao g l) (hlen : 1 ≤ l.length) :
    Calls Tryz.prog 79 #[.agg #[.int .i64 K, .int .i64 sort, .string name, .string num, .int .i64 kids], .slice ao l.length cap] w fun e w' => e = .returned (.tuple #[.int .i64 (rsF K sort l).1, .bool (rsF K sort l).2]) ∧ Below w.heap.size w w' := by
  have hao := hr.at0 (by omega)
  subst hao
  have hb : Below w.heap.size w ((w.alloc (.cells #[.int .i64 K, .int .i64 sort, .string name, .string num, .int .i64 kids] 51)).alloc (.cells #[.slice (some ⟨g, 0, none⟩) l.length cap] 23)) := ((Below.refl _ _).alloc (Nat.le_refl _) _).alloc (by simp) _
  have hr2 := hr.far hb
  have HX : Hid (RX w.heap.size g l.length cap l w ((w.alloc (.cells #[.int .i64 K, .int .i64 sort, .string name, .string num, .int .i64 kids] 51)).alloc (.cells #[.slice (some ⟨g, 0, none⟩) l.length cap] 23))) := Lib.hid ⟨hr2, hr2.get (t := 0) (by omega), by rw [World.cell?_alloc_at _ _ _ _ (by simp)]; rfl, by simp, hb⟩
  have HF := Lib.hid (show rsF K sort l = (l.getD 0 0, allF l 2 || allF l 3) from by rcases hK with rfl | rfl <;> rfl)
  generalize hS : w.heap.size = S at *
  have hal : ∀ (s : Int) (W : World), RowI W (some ⟨g, 0, none⟩) g l → W.cell? ⟨S + 1, 0, none⟩ = some (.slice (some ⟨g, 0, none⟩) l.length cap) → S + 1 < W.heap.size → Calls Tryz.prog 105 #[.int .i64 s, .pointer (some ⟨S + 1, 0, none⟩)] W fun e w' => e = .returned (.bool (allF l s)) ∧ Below W.heap.size W w' := fun s W h1 h2 h3 => all_any (some ⟨g, 0, none⟩) g cap l s (S + 1) W h1 h2 h3
  generalize hn : l.length = n at *
  have hi0 : 0 < n := by omega
  have HS := Lib.hid hS
  clear hn hr hr2 hb hS
  rcases hK with rfl | rfl
  all_goals
    by_cases h2 : allF l 2 = true
    · go_enter Tryz.func79, Tryz.ntmps79
      go_wp2
      rw [HS.out]
      generalize (w.alloc (.cells #[.int .i64 _, .int .i64 sort, .string name, .string num, .int .i64 kids] 51)).alloc (.cells #[.slice (some ⟨g, 0, none⟩) n cap] 23) = w2 at *
      refine add_region [[], [0], [0, 1], [], [3], [3, 4], [3, 4, 5], [3, 4, 5, 6], [3, 4, 5, 6, 7], [0, 1, 2, 3, 4, 5, 6, 7], [0, 1, 2, 3, 4, 5, 6, 7, 8, 9]] (fun W => RX S g n cap l w W) (fun _ => True) ?_
      apply a_con
      · intro x; go_simp; done
      · intro x W R hW hF hR
        have c0 := hW.box
        have c1 := hW.hd
        clear hF
        unfold addAt
        go_simp
        simp only [addUpon]
        exact hR _ (Below.refl _ _)
      simp only [Act.put, List.setIfInBounds_toArray, List.set_cons_zero, List.set_cons_succ]
      apply a_con
      · intro x; go_simp; done
      · intro x W R hW hF hR
        have c0 := hW.box
        have c1 := hW.hd
        clear hF
        unfold addAt
        go_simp
        simp only [addUpon]
        exact hR _ (Below.refl _ _)
      simp only [Act.put, List.setIfInBounds_toArray, List.set_cons_zero, List.set_cons_succ]
      iterate 2
        apply a_con
        · intro x; go_simp; done
        · intro x W R hW hF hR
          have c0 := hW.box
          have c1 := hW.hd
          clear hF
          unfold addAt
          go_simp
          simp only [addUpon]
          exact hR _ (Below.refl _ _)
        simp only [Act.put, List.setIfInBounds_toArray, List.set_cons_zero, List.set_cons_succ]
      apply a_con
      · intro x; go_simp; done
      · intro x W R hW hF hR
        have c0 := hW.box
        have c1 := hW.hd
        clear hF
        unfold addAt
        go_simp
        simp only [addUpon]
        have hd := hal 2 W hW.row hW.box hW.lt
        rw [h2] at hd
        refine hd.mono ?_
        rintro e w4 ⟨rfl, hb4⟩
        exact ⟨_, rfl, hR _ hb4⟩
      simp only [Act.put, List.setIfInBounds_toArray, List.set_cons_zero, List.set_cons_succ]
      apply a_con
      · intro x; go_simp; done
      · intro x W R hW hF hR
        have c0 := hW.box
        have c1 := hW.hd
        clear hF
        unfold addAt
        go_simp
        simp only [addUpon]
        exact hR _ (Below.refl _ _)
      simp only [Act.put, List.setIfInBounds_toArray, List.set_cons_zero, List.set_cons_succ]
      iterate 2
        refine a_skip (fun x => by go_simp; done) ?_
        simp only [Act.put, List.setIfInBounds_toArray, List.set_cons_zero, List.set_cons_succ]
      iterate 3
        apply a_con
        · intro x; go_simp; done
        · intro x W R hW hF hR
          have c0 := hW.box
          have c1 := hW.hd
          clear hF
          unfold addAt
          go_simp
          simp only [addUpon]
          exact hR _ (Below.refl _ _)
        simp only [Act.put, List.setIfInBounds_toArray, List.set_cons_zero, List.set_cons_succ]
      refine a_nil (by kernel_rfl) (by kernel_rfl) (by kernel_rfl) (fun _ _ h hb => h.far hb) (fun _ _ _ _ => trivial) (fun _ _ => trivial) (HX.out.drew) ?_
      intro x W hE hW hF hD
      clear hD
      have HB := Lib.hid (hW rfl).bel
      clear hW hF
      try go_wp2
      go_ret2
      exact ⟨by rw [HF.out, h2]; rfl, HB.out⟩
    · have h2 : allF l 2 = false := by simpa using h2
      by_cases h3 : allF l 3 = true
      · go_enter Tryz.func79, Tryz.ntmps79
        go_wp2
        rw [HS.out]
        generalize (w.alloc (.cells #[.int .i64 _, .int .i64 sort, .string name, .string num, .int .i64 kids] 51)).alloc (.cells #[.slice (some ⟨g, 0, none⟩) n cap] 23) = w2 at *
        refine add_region [[], [0], [0, 1], [], [3], [3, 4], [3, 4, 5], [3, 4, 5, 6], [3, 4, 5, 6, 7], [0, 1, 2, 3, 4, 5, 6, 7], [0, 1, 2, 3, 4, 5, 6, 7, 8, 9]] (fun W => RX S g n cap l w W) (fun _ => True) ?_
        apply a_con
        · intro x; go_simp; done
        · intro x W R hW hF hR
          have c0 := hW.box
          have c1 := hW.hd
          clear hF
          unfold addAt
          go_simp
          simp only [addUpon]
          exact hR _ (Below.refl _ _)
        simp only [Act.put, List.setIfInBounds_toArray, List.set_cons_zero, List.set_cons_succ]
        apply a_con
        · intro x; go_simp; done
        · intro x W R hW hF hR
          have c0 := hW.box
          have c1 := hW.hd
          clear hF
          unfold addAt
          go_simp
          simp only [addUpon]
          exact hR _ (Below.refl _ _)
        simp only [Act.put, List.setIfInBounds_toArray, List.set_cons_zero, List.set_cons_succ]
        iterate 2
          apply a_con
          · intro x; go_simp; done
          · intro x W R hW hF hR
            have c0 := hW.box
            have c1 := hW.hd
            clear hF
            unfold addAt
            go_simp
            simp only [addUpon]
            exact hR _ (Below.refl _ _)
          simp only [Act.put, List.setIfInBounds_toArray, List.set_cons_zero, List.set_cons_succ]
        apply a_con
        · intro x; go_simp; done
        · intro x W R hW hF hR
          have c0 := hW.box
          have c1 := hW.hd
          clear hF
          unfold addAt
          go_simp
          simp only [addUpon]
          have hd := hal 2 W hW.row hW.box hW.lt
          rw [h2] at hd
          refine hd.mono ?_
          rintro e w4 ⟨rfl, hb4⟩
          exact ⟨_, rfl, hR _ hb4⟩
        simp only [Act.put, List.setIfInBounds_toArray, List.set_cons_zero, List.set_cons_succ]
        apply a_con
        · intro x; go_simp; done
        · intro x W R hW hF hR
          have c0 := hW.box
          have c1 := hW.hd
          clear hF
          unfold addAt
          go_simp
          simp only [addUpon]
          exact hR _ (Below.refl _ _)
        simp only [Act.put, List.setIfInBounds_toArray, List.set_cons_zero, List.set_cons_succ]
        apply a_con
        · intro x; go_simp; done
        · intro x W R hW hF hR
          have c0 := hW.box
          have c1 := hW.hd
          clear hF
          unfold addAt
          go_simp
          simp only [addUpon]
          exact hR _ (Below.refl _ _)
        simp only [Act.put, List.setIfInBounds_toArray, List.set_cons_zero, List.set_cons_succ]
        apply a_con
        · intro x; go_simp; done
        · intro x W R hW hF hR
          have c0 := hW.box
          have c1 := hW.hd
          clear hF
          unfold addAt
          go_simp
          simp only [addUpon]
          have hd := hal 3 W hW.row hW.box hW.lt
          rw [h3] at hd
          refine hd.mono ?_
          rintro e w4 ⟨rfl, hb4⟩
          exact ⟨_, rfl, hR _ hb4⟩
        simp only [Act.put, List.setIfInBounds_toArray, List.set_cons_zero, List.set_cons_succ]
        iterate 3
          apply a_con
          · intro x; go_simp; done
          · intro x W R hW hF hR
            have c0 := hW.box
            have c1 := hW.hd
            clear hF
            unfold addAt
            go_simp
            simp only [addUpon]
            exact hR _ (Below.refl _ _)
          simp only [Act.put, List.setIfInBounds_toArray, List.set_cons_zero, List.set_cons_succ]
        refine a_nil (by kernel_rfl) (by kernel_rfl) (by kernel_rfl) (fun _ _ h hb => h.far hb) (fun _ _ _ _ => trivial) (fun _ _ => trivial) (HX.out.drew) ?_
        intro x W hE hW hF hD
        clear hD
        have HB := Lib.hid (hW rfl).bel
        clear hW hF
        try go_wp2
        go_ret2
        exact ⟨by rw [HF.out, h2, h3]; rfl, HB.out⟩
      · have h3 : allF l 3 = false := by simpa using h3
        go_enter Tryz.func79, Tryz.ntmps79
        go_wp2
        rw [HS.out]
        generalize (w.alloc (.cells #[.int .i64 _, .int .i64 sort, .string name, .string num, .int .i64 kids] 51)).alloc (.cells #[.slice (some ⟨g, 0, none⟩) n cap] 23) = w2 at *
        refine add_region [[], [0], [0, 1], [], [3], [3, 4], [3, 4, 5], [3, 4, 5, 6], [3, 4, 5, 6, 7], [0, 1, 2, 3, 4, 5, 6, 7], [0, 1, 2, 3, 4, 5, 6, 7, 8, 9]] (fun W => RX S g n cap l w W) (fun _ => True) ?_
        apply a_con
        · intro x; go_simp; done
        · intro x W R hW hF hR
          have c0 := hW.box
          have c1 := hW.hd
          clear hF
          unfold addAt
          go_simp
          simp only [addUpon]
          exact hR _ (Below.refl _ _)
        simp only [Act.put, List.setIfInBounds_toArray, List.set_cons_zero, List.set_cons_succ]
        apply a_con
        · intro x; go_simp; done
        · intro x W R hW hF hR
          have c0 := hW.box
          have c1 := hW.hd
          clear hF
          unfold addAt
          go_simp
          simp only [addUpon]
          exact hR _ (Below.refl _ _)
        simp only [Act.put, List.setIfInBounds_toArray, List.set_cons_zero, List.set_cons_succ]
        iterate 2
          apply a_con
          · intro x; go_simp; done
          · intro x W R hW hF hR
            have c0 := hW.box
            have c1 := hW.hd
            clear hF
            unfold addAt
            go_simp
            simp only [addUpon]
            exact hR _ (Below.refl _ _)
          simp only [Act.put, List.setIfInBounds_toArray, List.set_cons_zero, List.set_cons_succ]
        apply a_con
        · intro x; go_simp; done
        · intro x W R hW hF hR
          have c0 := hW.box
          have c1 := hW.hd
          clear hF
          unfold addAt
          go_simp
          simp only [addUpon]
          have hd := hal 2 W hW.row hW.box hW.lt
          rw [h2] at hd
          refine hd.mono ?_
          rintro e w4 ⟨rfl, hb4⟩
          exact ⟨_, rfl, hR _ hb4⟩
        simp only [Act.put, List.setIfInBounds_toArray, List.set_cons_zero, List.set_cons_succ]
        apply a_con
        · intro x; go_simp; done
        · intro x W R hW hF hR
          have c0 := hW.box
          have c1 := hW.hd
          clear hF
          unfold addAt
          go_simp
          simp only [addUpon]
          exact hR _ (Below.refl _ _)
        simp only [Act.put, List.setIfInBounds_toArray, List.set_cons_zero, List.set_cons_succ]
        apply a_con
        · intro x; go_simp; done
        · intro x W R hW hF hR
          have c0 := hW.box
          have c1 := hW.hd
          clear hF
          unfold addAt
          go_simp
          simp only [addUpon]
          exact hR _ (Below.refl _ _)
        simp only [Act.put, List.setIfInBounds_toArray, List.set_cons_zero, List.set_cons_succ]
        apply a_con
        · intro x; go_simp; done
        · intro x W R hW hF hR
          have c0 := hW.box
          have c1 := hW.hd
          clear hF
          unfold addAt
          go_simp
          simp only [addUpon]
          have hd := hal 3 W hW.row hW.box hW.lt
          rw [h3] at hd
          refine hd.mono ?_
          rintro e w4 ⟨rfl, hb4⟩
          exact ⟨_, rfl, hR _ hb4⟩
        simp only [Act.put, List.setIfInBounds_toArray, List.set_cons_zero, List.set_cons_succ]
        iterate 3
          apply a_con
          · intro x; go_simp; done
          · intro x W R hW hF hR
            have c0 := hW.box
            have c1 := hW.hd
            clear hF
            unfold addAt
            go_simp
            simp only [addUpon]
            exact hR _ (Below.refl _ _)
          simp only [Act.put, List.setIfInBounds_toArray, List.set_cons_zero, List.set_cons_succ]
        refine a_nil (by kernel_rfl) (by kernel_rfl) (by kernel_rfl) (fun _ _ h hb => h.far hb) (fun _ _ _ _ => trivial) (fun _ _ => trivial) (HX.out.drew) ?_
        intro x W hE hW hF hD
        clear hD
        have HB := Lib.hid (hW rfl).bel
        clear hW hF
        try go_wp2
        go_ret2
        exact ⟨by rw [HF.out, h2, h3]; rfl, HB.out⟩
/-- the sort of a node over a row of sorts that is long enough -/
theorem resultSort_any (x : Nd) (ao : Option Addr) (g cap : Nat) (l : List Int) (w : World) (hr : RowI w ao g l) (hop : 1 ≤ x.op ∧ x.op ≤ 20) (hlen : (arF x.op).1 ≤ l.length) :
    Calls Tryz.prog 79 #[x.val, .slice ao l.length cap] w fun e w' => e = .returned (.tuple #[.int .i64 (rsF x.op x.sort l).1, .bool (rsF x.op x.sort l).2]) ∧ Below w.heap.size w w' := by
  obtain ⟨op, sort, name, num, kids⟩ := x
  unfold Nd.val
  simp only at hop hlen ⊢
  rcases op_cases op with (rfl | rfl | rfl | rfl | rfl | rfl | rfl | rfl | rfl | rfl | rfl | rfl | rfl | rfl | rfl | rfl | rfl | rfl | rfl | rfl) | h
  · exact rs_c1 (.inl rfl) sort kids name num ao g cap l w hr
  · exact rs_c1 (.inr (.inl rfl)) sort kids name num ao g cap l w hr
  · exact rs_c1 (.inr (.inr (.inl rfl))) sort kids name num ao g cap l w hr
  · exact rs_c1 (.inr (.inr (.inr (.inl rfl)))) sort kids name num ao g cap l w hr
  · exact rs_c1 (.inr (.inr (.inr (.inr rfl)))) sort kids name num ao g cap l w hr
  · exact rs_c6 (.inl rfl) sort kids name num ao g cap l w hr
  · exact rs_c6 (.inr (.inl rfl)) sort kids name num ao g cap l w hr
  · exact rs_c6 (.inr (.inr (.inl rfl))) sort kids name num ao g cap l w hr
  · exact rs_c6 (.inr (.inr (.inr rfl))) sort kids name num ao g cap l w hr
  · exact rs_10 sort kids name num ao g cap l w hr (by simp [arF] at hlen; omega)
  · exact rs_11 sort kids name num ao g cap l w hr (by simp [arF] at hlen; omega)
  · exact rs_c12 (.inl rfl) sort kids name num ao g cap l w hr
  · exact rs_c12 (.inr rfl) sort kids name num ao g cap l w hr
  · exact rs_c14 (.inl rfl) sort kids name num ao g cap l w hr (by simp [arF] at hlen; omega)
  · exact rs_c14 (.inr rfl) sort kids name num ao g cap l w hr (by simp [arF] at hlen; omega)
  · exact rs_c16 (.inl rfl) sort kids name num ao g cap l w hr (by simp [arF] at hlen; omega)
  · exact rs_c16 (.inr rfl) sort kids name num ao g cap l w hr (by simp [arF] at hlen; omega)
  · exact rs_18 sort kids name num ao g cap l w hr (by simp [arF] at hlen; omega)
  · exact rs_19 sort kids name num ao g cap l w hr (by simp [arF] at hlen; omega)
  · exact rs_20 sort kids name num ao g cap l w hr (by simp [arF] at hlen; omega)
  · omega
end
end Go.Proofs.YthefknoicelhaaaGreatDoor.Se

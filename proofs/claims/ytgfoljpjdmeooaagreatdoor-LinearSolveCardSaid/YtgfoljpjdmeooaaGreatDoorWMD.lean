/- normalDivides: the remainder of a number by the modulus. -/
import Derived.Test.YtgfoljpjdmeooaaGreatDoorWMC
import Derived.Test.YtgfoljpjdmeooaaGreatDoorWLM
namespace Go.Proofs.YtgfoljpjdmeooaaGreatDoor
open Go.RowKit Nmx

/-- the boxes of the remainder: factor in D, modulus in M -/
structure RB (w W : World) (D M : Nat) (A B : Array Value) (zF zM : Int) : Prop where
  d : W.heap[D]? = some (.cells A 70 (0, 0))
  vd : IV W (.agg A) zF
  m : W.heap[M]? = some (.cells B 70 (0, 0))
  vm : IV W (.agg B) zM
  r : W.heap[w.heap.size]? = some (.cells #[.int .i64 0, .bool false, .slice none 0 0] 70 (0, 0))
  ld : D < w.heap.size
  lm : M < w.heap.size
  bel : Below w.heap.size w W
theorem RB.far {w W W' : World} {D M : Nat} {A B : Array Value} {zF zM : Int} (h : RB w W D M A B zF zM) (hb : Below W.heap.size W W') : RB w W' D M A B zF zM :=
  ⟨(hb.block _ (lt_of_heap h.d)).trans h.d, h.vd.far hb, (hb.block _ (lt_of_heap h.m)).trans h.m, h.vm.far hb, (hb.block _ (lt_of_heap h.r)).trans h.r, h.ld, h.lm, h.bel.trans (hb.mono h.bel.size)⟩
theorem RB.but {w W W' : World} {D M : Nat} {A B : Array Value} {zF zM : Int} (h : RB w W D M A B zF zM) {R : Nat} {cs : Array Value} {fr : Nat × Nat} (hR : W.heap[R]? = some (.cells cs 70 fr)) (hl : w.heap.size < R) (ho : ∀ g, g ≠ R → W'.heap[g]? = W.heap[g]?) (hs : W.heap.size ≤ W'.heap.size) (h1 : W'.os = W.os) (h2 : W'.tape = W.tape) (h3 : W'.output = W.output) : RB w W' D M A B zF zM := by
  have ld := h.ld;have lm := h.lm;exact ⟨(ho _ (by omega)).trans h.d, h.vd.but hR (by decide) ho, (ho _ (by omega)).trans h.m, h.vm.but hR (by decide) ho, (ho _ (by omega)).trans h.r, ld, lm, ⟨h1.trans h.bel.os, h2.trans h.bel.tape, h3.trans h.bel.output, Nat.le_trans h.bel.size hs, fun k hk => (ho k (by omega)).trans (h.bel.block k hk)⟩⟩
section
set_option maxRecDepth 100000
set_option maxHeartbeats 4000000
theorem restI {d e : Nat} {w : World} {D M : Nat} {A B : Array Value} {zF zM : Int} {q : Rat} (hD : w.heap[D]? = some (.cells A 70 (0, 0))) (vD : IV w (.agg A) zF) (hM : w.heap[M]? = some (.cells B 70 (0, 0))) (vM : IV w (.agg B) zM) (dq : DS d q) (dF : DS e (zF : Rat)) (h0 : zM ≠ 0) (fM : Fit zM) (hd : d ≤ 800) (he : e ≤ 800) (hE : Env w) :
    Calls Tryz.prog 96 #[.string (TX q), .pointer (some ⟨D, 0, none⟩), .pointer (some ⟨M, 0, none⟩)] w (GetsI ((q * zF).num % zM) w) := by
  have fN : Fit (q * zF).num := fit_ten (k := d + e) (Nat.le_of_lt (dq.mul dF).1) (by omega);have hmk : ∀ W, Below w.heap.size w W → Calls Tryz.prog 43 #[.string (TX q)] W (GetsQ q W) := fun W hW => mustT dq (by omega) W (hE.far hW)
  have hfi := fun W v (h : IV W v zF) => ratFromInt_any v zF W h
  have hml := fun W u v (hu : RV W u q) (hv : RV W v (zF : Rat)) => ratMul_any u v _ _ W hu hv (ds_rs (k := 100) dq (by omega)) (ds_rs (k := 100) dF (by omega)) (by omega)
  have hnm := fun W v (h : RV W v (q * zF)) => ratNum_any v _ W h
  have hqr := fun W u v (hu : IV W u (q * zF).num) (hv : IV W v zM) => quoRem_any u v _ _ W hu hv fN fM h0
  obtain ⟨s1, b1, a1, n1, c1, hA⟩ := iv_form vD;injection hA with hA;subst hA;obtain ⟨s2, b2, a2, n2, c2, hB⟩ := iv_form vM;injection hB with hB;subst hB;have hal := (Below.refl w.heap.size w).alloc (Nat.le_refl _) (.cells #[.int .i64 0, .bool false, .slice none 0 0] 70);have HK := Lib.hid (⟨(hal.block _ (lt_of_heap hD)).trans hD, vD.far hal, (hal.block _ (lt_of_heap hM)).trans hM, vM.far hal, heap_alloc_new _ _, lt_of_heap hD, lt_of_heap hM, hal⟩ : RB w _ D M #[.int .i64 s1, .bool b1, .slice a1 n1 c1] #[.int .i64 s2, .bool b2, .slice a2 n2 c2] zF zM);generalize (q * zF).num = zn at *;generalize TX q = tq at *;obtain ⟨zq, hzq⟩ : ∃ zq : Int, zn / zM = zq := ⟨_, rfl⟩
  obtain ⟨zr, hzr⟩ : ∃ zr : Int, zn % zM = zr := ⟨_, rfl⟩
  unfold QRPost at hqr;rw [hzq, hzr] at hqr;rw [hzr];have HMK := Lib.hid hmk;have HFI := Lib.hid hfi;have HML := Lib.hid hml;have HNM := Lib.hid hnm;have HQR := Lib.hid hqr;clear hD vD hM vM dq dF h0 fM fN hmk hfi hml hnm hqr hzq hzr hal hE
  go_enter Tryz.func96, Tryz.ntmps96
  go_wp2_with fail
  generalize w.alloc (.cells #[.int .i64 0, .bool false, .slice none 0 0] 70) = w3 at *;refine add_region [[], [0], [], [0, 1, 2], [0, 1, 2, 3], [0, 1, 2, 3, 4], [], [0, 1, 2, 3, 4, 5, 6], [0, 1, 2, 3, 4, 5, 6, 7], [0, 1, 2, 3, 4, 5, 6, 7, 8], [0, 1, 2, 3, 4, 5, 6, 7, 8], [], [], [0, 1, 2, 3, 4, 5, 6, 7, 8, 9, 11, 12], [0, 1, 2, 3, 4, 5, 6, 7, 8, 9, 10, 11, 12, 13]] (fun W => RB w W D M #[.int .i64 s1, .bool b1, .slice a1 n1 c1] #[.int .i64 s2, .bool b2, .slice a2 n2 c2] zF zM) (fun _ => True) ?_;apply a_con
  · intro x; go_simp; done
  · intro x W R hW hF hR;clear hF;unfold addAt
    go_simp
    simp only [addUpon];exact hR _ (Below.refl _ _)
  simp only [Act.put, List.setIfInBounds_toArray, List.set_cons_zero, List.set_cons_succ];refine a_opq (fun v W => RV W v q) (fun _ _ _ h hb => h.far hb) ?_ ?_ ?_
  · intro x; go_simp; done
  · intro x W R hW hF hR;clear hF;unfold addAt
    go_simp
    simp only [addUpon];refine (HMK.out W hW.bel).mono ?_;rintro e w' ⟨v, rfl, hv, hb⟩;exact ⟨v, rfl, hR _ _ hv hb⟩
  simp only [Act.put, List.setIfInBounds_toArray, List.set_cons_zero, List.set_cons_succ, List.length_cons, List.length_nil, Nat.zero_add];apply a_con
  · intro x; go_simp; done
  · intro x W R hW hF hR;have p0 := heap_cell hW.d 0;have p1 := heap_cell hW.d 1;have p2 := heap_cell hW.d 2;have q0 := heap_cell hW.m 0;have q1 := heap_cell hW.m 1;have q2 := heap_cell hW.m 2;clear hF;unfold addAt
    go_simp
    simp only [addUpon];exact hR _ (Below.refl _ _)
  simp only [Act.put, List.setIfInBounds_toArray, List.set_cons_zero, List.set_cons_succ];refine a_opq (fun v W => RV W v (zF : Rat)) (fun _ _ _ h hb => h.far hb) ?_ ?_ ?_
  · intro x; go_simp; done
  · intro x W R hW hF hR;clear hF;unfold addAt
    go_simp
    simp only [addUpon];refine (HFI.out W _ hW.vd).mono ?_;rintro e w' ⟨v, rfl, hv, hb⟩;exact ⟨v, rfl, hR _ _ hv hb⟩
  simp only [Act.put, List.setIfInBounds_toArray, List.set_cons_zero, List.set_cons_succ, List.length_cons, List.length_nil, Nat.zero_add, Nat.reduceAdd];refine a_opq (fun v W => RV W v (q * zF)) (fun _ _ _ h hb => h.far hb) ?_ ?_ ?_
  · intro x; go_simp; done
  · intro x W R hW hF hR;have hu := hF.2.2.1.2 rfl rfl rfl;have hv := hF.1.2 rfl rfl rfl;simp only [AK.fact] at hu hv;clear hF;unfold addAt
    go_simp
    simp only [addUpon];refine (HML.out W _ _ hu hv).mono ?_;rintro e w' ⟨v, rfl, hv, hb⟩;exact ⟨v, rfl, hR _ _ hv hb⟩
  simp only [Act.put, List.setIfInBounds_toArray, List.set_cons_zero, List.set_cons_succ, List.length_cons, List.length_nil, Nat.zero_add, Nat.reduceAdd];refine a_opq (fun v W => IV W v (zn)) (fun _ _ _ h hb => h.far hb) ?_ ?_ ?_
  · intro x; go_simp; done
  · intro x W R hW hF hR;have hu := hF.1.2 rfl rfl rfl;simp only [AK.fact] at hu;clear hF;unfold addAt
    go_simp
    simp only [addUpon];refine (HNM.out W _ hu).mono ?_;rintro e w' ⟨v, rfl, hv, hb⟩;exact ⟨v, rfl, hR _ _ hv hb⟩
  simp only [Act.put, List.setIfInBounds_toArray, List.set_cons_zero, List.set_cons_succ, List.length_cons, List.length_nil, Nat.zero_add, Nat.reduceAdd];apply a_con
  · intro x; go_simp; done
  · intro x W R hW hF hR;have p0 := heap_cell hW.d 0;have p1 := heap_cell hW.d 1;have p2 := heap_cell hW.d 2;have q0 := heap_cell hW.m 0;have q1 := heap_cell hW.m 1;have q2 := heap_cell hW.m 2;clear hF;unfold addAt
    go_simp
    simp only [addUpon];exact hR _ (Below.refl _ _)
  simp only [Act.put, List.setIfInBounds_toArray, List.set_cons_zero, List.set_cons_succ];refine a_opqF (PairShape) (fun v W => ∃ v1 v2, v = .tuple #[v1, v2] ∧ IV W v1 zq ∧ IV W v2 zr) (fun _ _ _ h hb => let ⟨v1, v2, h1, h2, h3⟩ := h; ⟨v1, v2, h1, h2.far hb, h3.far hb⟩) ?_ ?_ ?_
  · intro x; go_simp; done
  · intro x W R hW hF hR;have hu := hF.2.1.2 rfl rfl rfl;simp only [AK.fact] at hu;clear hF;unfold addAt
    go_simp
    simp only [addUpon];refine (HQR.out W _ _ hu hW.vm).mono ?_;rintro e w' ⟨v1, v2, rfl, hv1, hv2, hb⟩;exact ⟨_, rfl, hR _ _ ⟨v1, v2, rfl, hv1.shape, hv2.shape⟩ ⟨v1, v2, rfl, hv1, hv2⟩ hb⟩
  simp only [Act.put, List.setIfInBounds_toArray, List.set_cons_zero, List.set_cons_succ, List.length_cons, List.length_nil, Nat.zero_add, Nat.reduceAdd];refine a_opqF (PairShape) (fun v W => ∃ v1 v2, v = .tuple #[v1, v2] ∧ IV W v1 zq ∧ IV W v2 zr) (fun _ _ _ h hb => let ⟨v1, v2, h1, h2, h3⟩ := h; ⟨v1, v2, h1, h2.far hb, h3.far hb⟩) ?_ ?_ ?_
  · intro x; go_simp; done
  · intro x W R hW hF hR;have hu := hF.1.2 rfl rfl rfl;have hs := hF.1.1 rfl;simp only [AK.fact] at hu;simp only [AK.free] at hs;clear hF;unfold addAt
    go_simp
    simp only [addUpon];exact hR _ _ hs hu (Below.refl _ _)
  simp only [Act.put, List.setIfInBounds_toArray, List.set_cons_zero, List.set_cons_succ, List.length_cons, List.length_nil, Nat.zero_add, Nat.reduceAdd];refine a_fre (IntShape) ?_ ?_ ?_
  · intro x; go_simp; done
  · intro x W R hW hF hR;have hs := hF.1.1 rfl;simp only [AK.free] at hs;obtain ⟨v1, v2, hx, hs1, hs2⟩ := hs;simp only [hx];clear hF;unfold addAt
    go_simp
    simp only [addUpon];exact hR _ _ hs1 (Below.refl _ _)
  simp only [Act.put, List.setIfInBounds_toArray, List.set_cons_zero, List.set_cons_succ, List.length_cons, List.length_nil, Nat.zero_add, Nat.reduceAdd];refine a_freX (fun x => ∃ v1, x 8 = .tuple #[v1, x 10]) (fun x x' hx h => by rw [← hx 8 (.inr (List.contains_iff_mem.1 rfl)), ← hx 10 (.inl rfl)]; exact h) ?_ ?_ ?_
  · intro x; go_simp; done
  · intro x W R hW hF hR;have hs := hF.2.1.1 rfl;simp only [AK.free] at hs;obtain ⟨v1, v2, hx, hs1, hs2⟩ := hs;simp only [hx];clear hF;unfold addAt
    go_simp
    simp only [addUpon];refine hR _ _ ⟨v1, ?_⟩ (Below.refl _ _);show updX x 10 v2 8 = .tuple #[v1, updX x 10 v2 10];rw [updX_self, updX_ne (i := 10) (j := 8) _ _ (by decide)];exact hx
  simp only [Act.put, List.setIfInBounds_toArray, List.set_cons_zero, List.set_cons_succ, List.length_cons, List.length_nil, Nat.zero_add, Nat.reduceAdd];refine a_new (fun B W => w.heap.size < B ∧ W.heap[B]? = some (.cells #[.int .i64 0, .bool false, .slice none 0 0] 70 (0, 0))) (fun _ _ _ h hb => ⟨h.1, (hb.block _ (lt_of_heap h.2)).trans h.2⟩) ?_ ?_ ?_
  · intro x; go_simp; done
  · intro x W R hW hF hR;clear hF;unfold addAt
    go_simp
    simp only [addUpon];exact hR _ ⟨lt_of_heap hW.r, heap_alloc_new _ _⟩ ((Below.refl _ _).alloc (Nat.le_refl _) _) (by simp)
  simp only [Act.put, List.setIfInBounds_toArray, List.set_cons_zero, List.set_cons_succ, List.length_cons, List.length_nil, Nat.zero_add, Nat.reduceAdd];refine a_new (fun B W => w.heap.size < B ∧ W.heap[B]? = some (.cells #[.int .i64 0, .bool false, .slice none 0 0] 70 (0, 0))) (fun _ _ _ h hb => ⟨h.1, (hb.block _ (lt_of_heap h.2)).trans h.2⟩) ?_ ?_ ?_
  · intro x; go_simp; done
  · intro x W R hW hF hR;clear hF;unfold addAt
    go_simp
    simp only [addUpon];exact hR _ ⟨lt_of_heap hW.r, heap_alloc_new _ _⟩ ((Below.refl _ _).alloc (Nat.le_refl _) _) (by simp)
  simp only [Act.put, List.setIfInBounds_toArray, List.set_cons_zero, List.set_cons_succ, List.length_cons, List.length_nil, Nat.zero_add, Nat.reduceAdd];refine a_wrt (fun x W => ∃ B8 B9 v1 v2, x 8 = .tuple #[v1, v2] ∧ IV W v2 zr ∧ x 11 = .pointer (some ⟨B8, 0, none⟩) ∧ x 12 = .pointer (some ⟨B9, 0, none⟩) ∧ w.heap.size < B9 ∧ W.heap[B9]? = some (.cells #[.int .i64 0, .bool false, .slice none 0 0] 70 (0, 0)) ∧ RB w W D M #[.int .i64 s1, .bool b1, .slice a1 n1 c1] #[.int .i64 s2, .bool b2, .slice a2 n2 c2] zF zM) (fun _ _ _ h hb => let ⟨B8, B9, v1, v2, h3, h4, h1, h2, h5, h8, h9⟩ := h; ⟨B8, B9, v1, v2, h3, h4.far hb, h1, h2, h5, (hb.block _ (lt_of_heap h8)).trans h8, h9.far hb⟩) (fun x x' w hx hT => let ⟨B8, B9, v1, v2, h3, h4, h1, h2, h⟩ := hT; ⟨B8, B9, v1, v2, (hx 8 (.inr (List.contains_iff_mem.1 rfl))).symm.trans h3, h4, (hx 11 (.inr (List.contains_iff_mem.1 rfl))).symm.trans h1, (hx 12 (.inr (List.contains_iff_mem.1 rfl))).symm.trans h2, h⟩) ?_ ?_ ?_
  · intro x; go_simp; done
  · intro x W R hW hF hD hR;have hs := hF.2.2.2.1.1 rfl;have hp := hF.2.2.2.2.1.2 rfl rfl rfl;have h8 := hF.2.1.2 rfl rfl rfl;have h9 := hF.1.2 rfl rfl rfl;have hd := hD 11 12 (List.contains_iff_mem.1 rfl) (List.contains_iff_mem.1 rfl) (by omega) rfl rfl;simp only [AK.fact] at hp h8 h9;simp only [AK.free] at hs;obtain ⟨v1, v2, hxp, -, hvp⟩ := hp;obtain ⟨B8, hx8, hl8, hB8⟩ := h8;obtain ⟨B9, hx9, hl9, hB9⟩ := h9;have hne : B8 ≠ B9 := fun e => hd (by rw [hx8, hx9, e])
    obtain ⟨s, b, ao, n, c, hx6⟩ := hs;simp only [hx8, hx6];have e0 := heap_cell hB8 0;have e1 := heap_cell hB8 1;have e2 := heap_cell hB8 2;have fr := fun i => heap_fz hB8 i
    clear hF hD hd;unfold addAt
    go_simp
    simp only [addUpon];have ho : ∀ g, g ≠ B8 → (((W.setCell ⟨B8, 0, none⟩ (.int .i64 s)).setCell ⟨B8, 1, none⟩ (.bool b)).setCell ⟨B8, 2, none⟩ (.slice ao n c)).heap[g]? = W.heap[g]? := fun g hg => set3_other _ _ _ hg
    exact hR _ _ ⟨B8, B9, v1, v2, (updX_ne (i := 13) (j := 8) _ _ (by decide)).trans hxp, hvp.but hB8 (by decide) ho, (updX_ne (i := 13) (j := 11) _ _ (by decide)).trans hx8, (updX_ne (i := 13) (j := 12) _ _ (by decide)).trans hx9, hl9, (ho _ (Ne.symm hne)).trans hB9, hW.but hB8 hl8 ho (by simp [World.setCell]) rfl rfl rfl⟩ trivial (by simp [World.setCell])
  simp only [Act.put];refine a_wrt2 (fun x W => ∃ B9 C9, x 12 = .pointer (some ⟨B9, 0, none⟩) ∧ w.heap.size < B9 ∧ W.heap[B9]? = some (.cells C9 70 (0, 0)) ∧ IV W (.agg C9) zr ∧ RB w W D M #[.int .i64 s1, .bool b1, .slice a1 n1 c1] #[.int .i64 s2, .bool b2, .slice a2 n2 c2] zF zM) (fun _ _ _ h hb => let ⟨B9, C9, h1, h5, h6, h7, h9⟩ := h; ⟨B9, C9, h1, h5, (hb.block _ (lt_of_heap h6)).trans h6, h7.far hb, h9.far hb⟩) (fun x x' w hx hT => let ⟨B9, C9, h1, h⟩ := hT; ⟨B9, C9, (hx 12 (.inr (List.contains_iff_mem.1 rfl))).symm.trans h1, h⟩) ?_ ?_ ?_
  · intro x; go_simp; done
  · intro x W R hW hF hD hR;have hs := hF.2.2.2.1.1 rfl;have hT := hF.1.2 rfl rfl rfl;simp only [AK.fact] at hT;simp only [AK.free] at hs;obtain ⟨B8, B9, v1, v2, hxp, hu, hx8, hx9, hl9, hB9, hM⟩ := hT;obtain ⟨v1', hs⟩ := hs;rw [hxp] at hs;injection hs with hs;injection hs with hs;injection hs with _ hs;injection hs with hs _;subst hs;obtain ⟨s, b, ao, n, c, hx7⟩ := iv_form hu;rw [hx7] at hu;simp only [hx9, hx7];have e0 := heap_cell hB9 0;have e1 := heap_cell hB9 1;have e2 := heap_cell hB9 2;have fr := fun i => heap_fz hB9 i
    clear hF hD;unfold addAt
    go_simp
    simp only [addUpon];have ho : ∀ g, g ≠ B9 → (((W.setCell ⟨B9, 0, none⟩ (.int .i64 s)).setCell ⟨B9, 1, none⟩ (.bool b)).setCell ⟨B9, 2, none⟩ (.slice ao n c)).heap[g]? = W.heap[g]? := fun g hg => set3_other _ _ _ hg
    exact hR _ _ ⟨B9, _, (updX_ne (i := 14) (j := 12) _ _ (by decide)).trans hx9, hl9, set3_heap hB9, hu.but hB9 (by decide) ho, hM.but hB9 hl9 ho (by simp [World.setCell]) rfl rfl rfl⟩ trivial (by simp [World.setCell])
  simp only [Act.put];refine a_nil (by kernel_rfl) (by kernel_rfl) (by kernel_rfl) (fun _ _ h hb => h.far hb) (fun _ _ _ _ => trivial) (fun _ _ => trivial) (HK.out.far (Below.refl _ _).drew) ?_;intro x W hE hW hF hD;clear hD;have hT := hF.1.2 rfl;simp only [AK.fact] at hT;obtain ⟨B9, C9, hx9, hl9, hB9, hI, hM⟩ := hT;obtain ⟨s, b, ao, n, c, hC9⟩ := iv_form hI;injection hC9 with hC9;subst hC9;have HI := Lib.hid hI;have HM := Lib.hid hM;simp only [hx9];have e0 := heap_cell hB9 0;have e1 := heap_cell hB9 1;have e2 := heap_cell hB9 2;clear hF hW hI;have r0 := heap_cell hM.r 0;have r1 := heap_cell hM.r 1;have r2 := heap_cell hM.r 2;have fr := fun i => heap_fz hM.r i
  clear hM
  go_wp2_with fail
  have ho : ∀ g, g ≠ w.heap.size → (((W.setCell ⟨w.heap.size, 0, none⟩ (.int .i64 s)).setCell ⟨w.heap.size, 1, none⟩ (.bool b)).setCell ⟨w.heap.size, 2, none⟩ (.slice ao n c)).heap[g]? = W.heap[g]? := fun g hg => set3_other _ _ _ hg
  refine end_int3 rfl rfl rfl HM.out.r ⟨_, rfl, HI.out.but HM.out.r (by decide) ho, ?_⟩;exact ((HM.out.bel.setCell (show w.heap.size ≤ w.heap.size by omega) _).setCell (show w.heap.size ≤ w.heap.size by omega) _).setCell (show w.heap.size ≤ w.heap.size by omega) _
end
end Go.Proofs.YtgfoljpjdmeooaaGreatDoor

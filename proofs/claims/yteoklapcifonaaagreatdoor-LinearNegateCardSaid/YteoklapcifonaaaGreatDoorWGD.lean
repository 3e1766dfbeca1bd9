/- The reference's Negate. -/
import Derived.Test.YteoklapcifonaaaGreatDoorWGB
import Derived.Test.YteoklapcifonaaaGreatDoorWTF
import Derived.Test.YteoklapcifonaaaGreatDoorWMJ
namespace Go.Proofs.YteoklapcifonaaaGreatDoor
open Go.RowKit Nmx

/-- a negation as a value -/
def NgV (s : Int) (q : Rat) (cs : List (List UInt8 × Rat)) (y : Int × Option Int × Rat) (v : Value) (W : World) : Prop := ∃ ao n c tx rs, v = .agg #[.int .i64 y.1, .int .i64 s, .slice ao n c, .string tx, .string (TXo y.2.1)] ∧ LV W (.agg #[.int .i64 s, .slice ao n c, .string tx]) s 79 (y.2.2 * q) rs ∧ ∀ m, cof rs m = y.2.2 * cof cs m
theorem NgV.far {s : Int} {q : Rat} {cs : List (List UInt8 × Rat)} {y : Int × Option Int × Rat} {v : Value} {W W' : World} (h : NgV s q cs y v W) (hb : Below W.heap.size W W') : NgV s q cs y v W' :=
  let ⟨ao, n, c, tx, rs, h1, h2, h3⟩ := h; ⟨ao, n, c, tx, rs, h1, h2.far hb, h3⟩
/-- .. the boxes: the constraint, the multiple by -1 -/
structure NB2 (w W : World) (r s : Int) (a1 : Option Addr) (n1 c1 : Nat) (t1 tm : ByteArray) (B : Nat) (ao : Option Addr) (n c : Nat) (tx : ByteArray) : Prop where
  a : W.heap[w.heap.size]? = some (.cells #[.int .i64 r, .int .i64 s, .slice a1 n1 c1, .string t1, .string tm] 39 (0, 0))
  b : W.heap[B]? = some (.cells #[.int .i64 s, .slice ao n c, .string tx] 26 (0, 0))
  bel : Below w.heap.size w W
theorem NB2.far {w W W' : World} {r s : Int} {a1 : Option Addr} {n1 c1 : Nat} {t1 tm : ByteArray} {B : Nat} {ao : Option Addr} {n c : Nat} {tx : ByteArray} (h : NB2 w W r s a1 n1 c1 t1 tm B ao n c tx) (hb : Below W.heap.size W W') : NB2 w W' r s a1 n1 c1 t1 tm B ao n c tx :=
  ⟨(hb.block _ (lt_of_heap h.a)).trans h.a, (hb.block _ (lt_of_heap h.b)).trans h.b, h.bel.trans (hb.mono h.bel.size)⟩
section
set_option maxRecDepth 100000
set_option maxHeartbeats 8000000
theorem refNegL {w : World} {r s : Int} {a1 : Option Addr} {n1 c1 : Nat} {t1 : ByteArray} {q : Rat} {cs : List (List UInt8 × Rat)} {M : Option Int} (h : LV w (.agg #[.int .i64 s, .slice a1 n1 c1, .string t1]) s 26 q cs) (hk : ConM r s 26 M) :
    Calls Tryz.prog 47 #[.agg #[.int .i64 r, .int .i64 s, .slice a1 n1 c1, .string t1, .string (TXo M)]] w (NegP r s M q cs w) := by
  have hvl : ∀ W, Below w.heap.size w W → Calls Tryz.prog 32 #[.agg #[.int .i64 r, .int .i64 s, .slice a1 n1 c1, .string t1, .string (TXo M)]] W fun e w' => e = .returned (.bool true) ∧ Below W.heap.size W w' := fun W hW => refValidC (h.far hW) hk (by decide)
  have htk : ∀ (k : Rat) W, k = 1 ∨ k = -1 → Below w.heap.size w W → Calls Tryz.prog 83 #[.agg #[.int .i64 s, .slice a1 n1 c1, .string t1], .string (TX k)] W fun e w' => ∃ v, e = .returned v ∧ MuV s q cs k v w' ∧ Below W.heap.size W w' := fun k W hk hW => by
    have dk : DS 26 k := by rcases hk with rfl | rfl; exact DS.one (by decide); exact (DS.one (by decide)).neg
    refine (timesR (h.far hW) dk (by decide) (by decide)).mono ?_;rintro e w' ⟨rs, v, rfl, hl, hf, hb⟩;obtain ⟨ao, n, c, x, rfl⟩ := lvOpen hl;exact ⟨_, rfl, ⟨ao, n, c, x, rs, rfl, hl.mono (by decide), hf⟩, hb⟩
  have h1 : ∀ W, Below w.heap.size w W → Calls Tryz.prog 83 #[.agg #[.int .i64 s, .slice a1 n1 c1, .string t1], .string ⟨#[49]⟩] W fun e w' => ∃ v, e = .returned v ∧ MuV s q cs 1 v w' ∧ Below W.heap.size W w' := fun W hW => by
    have := htk 1 W (.inl rfl) hW;rw [show TX 1 = ⟨#[49]⟩ from (tx_of (by decide +kernel)).symm] at this;exact this
  have h2 : ∀ W, Below w.heap.size w W → Calls Tryz.prog 83 #[.agg #[.int .i64 s, .slice a1 n1 c1, .string t1], .string ⟨#[45, 49]⟩] W fun e w' => ∃ v, e = .returned v ∧ MuV s q cs (-1) v w' ∧ Below W.heap.size W w' := fun W hW => by
    have := htk (-1) W (.inr rfl) hW;rw [tx_m1] at this;exact this
  obtain ⟨tm, htm⟩ : ∃ t, TXo M = t := ⟨_, rfl⟩
  rw [htm] at hvl ⊢;have HTM := Lib.hid htm;have HVL := Lib.hid hvl;have H1 := Lib.hid h1;have H2 := Lib.hid h2;have HBX := Lib.hid (⟨heap_alloc_new w _, alloc_far w _⟩ : NB1 w (w.alloc (.cells #[.int .i64 r, .int .i64 s, .slice a1 n1 c1, .string t1, .string tm] 39)) r s a1 n1 c1 t1 tm);clear hvl htk h1 h2 htm h
  go_enter Tryz.func47, Tryz.ntmps47
  go_wp2_with fail
  generalize w.alloc (.cells #[.int .i64 r, .int .i64 s, .slice a1 n1 c1, .string t1, .string tm] 39) = w1 at *;refine (HVL.out _ HBX.out.bel).mono ?_;rintro e w2 ⟨rfl, hb⟩;replace HBX := Lib.hid (HBX.out.far hb);clear hb HVL;have p1 := heap_cell HBX.out.a 1;have p2 := heap_cell HBX.out.a 2;have p3 := heap_cell HBX.out.a 3;have hla := lt_of_heap HBX.out.a
  go_wp2_with fail
  refine (H2.out _ HBX.out.bel).mono ?_;rintro e w3 ⟨v, rfl, ⟨ao, n, c, tx, rs, rfl, hl, hf⟩, hb⟩;replace HBX := Lib.hid (HBX.out.far hb);have HL := Lib.hid hl;have HF := Lib.hid hf;clear hb p1 p2 p3 hla H2 hl hf;have p0 := heap_cell HBX.out.a 0;have p1 := heap_cell HBX.out.a 1;have p2 := heap_cell HBX.out.a 2;have p3 := heap_cell HBX.out.a 3;have p4 := heap_cell HBX.out.a 4;have hla := lt_of_heap HBX.out.a;have hal := alloc_far w3 (.cells #[.int .i64 s, .slice ao n c, .string tx] 26);have HN2 := Lib.hid (⟨(hal.block _ (lt_of_heap HBX.out.a)).trans HBX.out.a, heap_alloc_new w3 _, HBX.out.bel.trans (hal.mono HBX.out.bel.size)⟩ : NB2 w (w3.alloc (.cells #[.int .i64 s, .slice ao n c, .string tx] 26)) r s a1 n1 c1 t1 tm w3.heap.size ao n c tx);have HL2 := Lib.hid (HL.out.far hal);clear hal;cases M with
  | none =>
    obtain ⟨hs, hr⟩ := hk;obtain rfl : ⟨#[]⟩ = tm := HTM.out;clear hs;rcases hr with rfl | rfl | rfl
    · go_wp2_with fail
      go_ret2
      have hg := ngs_one (y := (2, none, -1)) HL2.out HF.out;rw [show (w3.alloc (.cells #[.int .i64 s, .slice ao n c, .string tx] 26)).heap.size = w3.heap.size + 1 by simp] at hg;exact ⟨_, rfl, hg, HN2.out.bel.trans ((alloc_far _ _).mono HN2.out.bel.size)⟩
    · go_wp2_with fail
      go_ret2
      have hg := ngs_one (y := (1, none, -1)) HL2.out HF.out;rw [show (w3.alloc (.cells #[.int .i64 s, .slice ao n c, .string tx] 26)).heap.size = w3.heap.size + 1 by simp] at hg;exact ⟨_, rfl, hg, HN2.out.bel.trans ((alloc_far _ _).mono HN2.out.bel.size)⟩
    · go_wp2_with fail
      generalize w3.alloc (.cells #[.int .i64 s, .slice ao n c, .string tx] 26) = w4 at *;generalize w3.heap.size = B at *;clear p0 p1 p2 p3 p4 hla;refine add_region [[], [0], [0, 1], [0, 1, 2], [], [4], [0, 1, 2, 3, 4, 5], [0, 1, 2, 3, 4, 5, 6], [0, 1, 2, 3, 4, 5, 6, 7]] (fun W => NB2 w W 3 s a1 n1 c1 t1 ⟨#[]⟩ B ao n c tx ∧ LV W (.agg #[.int .i64 s, .slice ao n c, .string tx]) s 79 (-1 * q) rs) (fun _ => True) ?_
      iterate 2
        apply a_con
        · intro x; go_simp; done
        · intro x W R hW hF hR;have p0 := heap_cell hW.1.a 0;have p1 := heap_cell hW.1.a 1;have p2 := heap_cell hW.1.a 2;have p3 := heap_cell hW.1.a 3;have p4 := heap_cell hW.1.a 4;have b0 := heap_cell hW.1.b 0;have b1 := heap_cell hW.1.b 1;have b2 := heap_cell hW.1.b 2;clear hF;unfold addAt
          go_simp
          simp only [addUpon];exact hR _ (Below.refl _ _)
        simp only [Act.put, List.setIfInBounds_toArray, List.set_cons_zero, List.set_cons_succ]
      refine a_opq (fun v W => MuV s q cs 1 v W) (fun _ _ _ h hb => h.far hb) ?_ ?_ ?_
      · intro x; go_simp; done
      · intro x W R hW hF hR;clear hF;unfold addAt
        go_simp
        simp only [addUpon];refine (H1.out W hW.1.bel).mono ?_;rintro e w' ⟨v, rfl, hv, hb⟩;exact ⟨v, rfl, hR _ _ hv hb⟩
      simp only [Act.put, List.setIfInBounds_toArray, List.set_cons_zero, List.set_cons_succ, List.length_cons, List.length_nil, Nat.zero_add, Nat.reduceAdd];refine a_opq (fun v W => NgV s q cs (2, none, 1) v W) (fun _ _ _ h hb => h.far hb) ?_ ?_ ?_
      · intro x; go_simp; done
      · intro x W R hW hF hR;have hu := hF.1.2 rfl rfl rfl;simp only [AK.fact] at hu;obtain ⟨ao', n', c', tx', rs', hx2, hl, hf⟩ := hu;rw [hx2] at hl;simp only [hx2];clear hF;unfold addAt
        go_simp
        simp only [addUpon];exact hR _ _ ⟨ao', n', c', tx', rs', rfl, hl, hf⟩ (Below.refl _ _)
      simp only [Act.put, List.setIfInBounds_toArray, List.set_cons_zero, List.set_cons_succ, List.length_cons, List.length_nil, Nat.zero_add, Nat.reduceAdd]
      iterate 2
        apply a_con
        · intro x; go_simp; done
        · intro x W R hW hF hR;have p0 := heap_cell hW.1.a 0;have p1 := heap_cell hW.1.a 1;have p2 := heap_cell hW.1.a 2;have p3 := heap_cell hW.1.a 3;have p4 := heap_cell hW.1.a 4;have b0 := heap_cell hW.1.b 0;have b1 := heap_cell hW.1.b 1;have b2 := heap_cell hW.1.b 2;clear hF;unfold addAt
          go_simp
          simp only [addUpon];exact hR _ (Below.refl _ _)
        simp only [Act.put, List.setIfInBounds_toArray, List.set_cons_zero, List.set_cons_succ]
      refine a_opq (fun v W => ∃ g, v = .slice (some ⟨g, 0, none⟩) 2 2 ∧ NgS W g s q cs (ngL 3 none)) (fun _ _ _ h hb => let ⟨g, h1, h2⟩ := h; ⟨g, h1, h2.far hb⟩) ?_ ?_ ?_
      · intro x; go_simp; done
      · intro x W R hW hF hR;have hu := hF.2.2.1.2 rfl rfl rfl;simp only [AK.fact] at hu;obtain ⟨ao', n', c', tx', rs', hx2, hl, hf⟩ := hu;simp only [hx2];clear hF;unfold addAt
        go_simp
        simp only [addUpon];exact hR _ _ ⟨_, rfl, ngs_two (y := (2, none, 1)) (y' := (2, none, -1)) hl hf hW.2 HF.out⟩ (alloc_far _ _)
      simp only [Act.put, List.setIfInBounds_toArray, List.set_cons_zero, List.set_cons_succ, List.length_cons, List.length_nil, Nat.zero_add, Nat.reduceAdd];refine a_opq (fun v W => ∃ g, v = .slice (some ⟨g, 0, none⟩) 2 2 ∧ NgS W g s q cs (ngL 3 none)) (fun _ _ _ h hb => let ⟨g, h1, h2⟩ := h; ⟨g, h1, h2.far hb⟩) ?_ ?_ ?_
      · intro x; go_simp; done
      · intro x W R hW hF hR;have hu := hF.1.2 rfl rfl rfl;simp only [AK.fact] at hu;clear hF;unfold addAt
        go_simp
        simp only [addUpon];exact hR _ _ hu (Below.refl _ _)
      simp only [Act.put, List.setIfInBounds_toArray, List.set_cons_zero, List.set_cons_succ, List.length_cons, List.length_nil, Nat.zero_add, Nat.reduceAdd];apply a_con
      · intro x; go_simp; done
      · intro x W R hW hF hR;clear hF;unfold addAt
        go_simp
        simp only [addUpon];exact hR _ (Below.refl _ _)
      simp only [Act.put, List.setIfInBounds_toArray, List.set_cons_zero, List.set_cons_succ];refine a_nil (by kernel_rfl) (by kernel_rfl) (by kernel_rfl) (fun _ _ h hb => ⟨h.1.far hb, h.2.far hb⟩) (fun _ _ _ _ => trivial) (fun _ _ => trivial) (⟨HN2.out.far (Below.refl _ _).drew, HL2.out.far (Below.refl _ _).drew⟩) ?_;intro x W hE hW hF hD;clear hD;obtain ⟨g, hx, hs⟩ := hF.2.1.2 rfl;simp only [hx];have hbl := (hW rfl).1.bel;clear hF hW hE hx
      go_wp2_with fail
      go_ret2
      exact ⟨g, rfl, hs, hbl⟩
  | some m =>
    obtain ⟨-, hr, -, -⟩ := hk;rcases hr with rfl | rfl
    · go_wp2_with fail
      generalize w3.alloc (.cells #[.int .i64 s, .slice ao n c, .string tx] 26) = w4 at *;generalize w3.heap.size = B at *;clear p0 p1 p2 p3 p4 hla;refine add_region [[], [0], [0, 1], [], [3], [3, 4], [], [6], [0, 1, 2, 3, 4, 5, 6, 7], [0, 1, 2, 3, 4, 5, 6, 7, 8], [0, 1, 2, 3, 4, 5, 6, 7, 8, 9], [0, 1, 2, 3, 4, 5, 6, 7, 8, 9, 10]] (fun W => NB2 w W 4 s a1 n1 c1 t1 tm B ao n c tx ∧ LV W (.agg #[.int .i64 s, .slice ao n c, .string tx]) s 79 (-1 * q) rs) (fun _ => True) ?_
      iterate 5
        apply a_con
        · intro x; go_simp; done
        · intro x W R hW hF hR;have p0 := heap_cell hW.1.a 0;have p1 := heap_cell hW.1.a 1;have p2 := heap_cell hW.1.a 2;have p3 := heap_cell hW.1.a 3;have p4 := heap_cell hW.1.a 4;have b0 := heap_cell hW.1.b 0;have b1 := heap_cell hW.1.b 1;have b2 := heap_cell hW.1.b 2;clear hF;unfold addAt
          go_simp
          simp only [addUpon];exact hR _ (Below.refl _ _)
        simp only [Act.put, List.setIfInBounds_toArray, List.set_cons_zero, List.set_cons_succ]
      refine a_opq (fun v W => MuV s q cs 1 v W) (fun _ _ _ h hb => h.far hb) ?_ ?_ ?_
      · intro x; go_simp; done
      · intro x W R hW hF hR;clear hF;unfold addAt
        go_simp
        simp only [addUpon];refine (H1.out W hW.1.bel).mono ?_;rintro e w' ⟨v, rfl, hv, hb⟩;exact ⟨v, rfl, hR _ _ hv hb⟩
      simp only [Act.put, List.setIfInBounds_toArray, List.set_cons_zero, List.set_cons_succ, List.length_cons, List.length_nil, Nat.zero_add, Nat.reduceAdd]
      iterate 2
        apply a_con
        · intro x; go_simp; done
        · intro x W R hW hF hR;have p0 := heap_cell hW.1.a 0;have p1 := heap_cell hW.1.a 1;have p2 := heap_cell hW.1.a 2;have p3 := heap_cell hW.1.a 3;have p4 := heap_cell hW.1.a 4;have b0 := heap_cell hW.1.b 0;have b1 := heap_cell hW.1.b 1;have b2 := heap_cell hW.1.b 2;clear hF;unfold addAt
          go_simp
          simp only [addUpon];exact hR _ (Below.refl _ _)
        simp only [Act.put, List.setIfInBounds_toArray, List.set_cons_zero, List.set_cons_succ]
      refine a_opq (fun v W => NgV s q cs (5, some m, 1) v W) (fun _ _ _ h hb => h.far hb) ?_ ?_ ?_
      · intro x; go_simp; done
      · intro x W R hW hF hR;have hu := hF.2.2.1.2 rfl rfl rfl;simp only [AK.fact] at hu;obtain ⟨ao', n', c', tx', rs', hx2, hl, hf⟩ := hu;rw [hx2] at hl;simp only [hx2];clear hF;unfold addAt
        go_simp
        simp only [addUpon];refine hR _ _ ⟨ao', n', c', tx', rs', ?_, hl, hf⟩ (Below.refl _ _);rw [← HTM.out, show IntKind.i64.wrap 5 = 5 from by decide]
      simp only [Act.put, List.setIfInBounds_toArray, List.set_cons_zero, List.set_cons_succ, List.length_cons, List.length_nil, Nat.zero_add, Nat.reduceAdd];refine a_opq (fun v W => ∃ g, v = .slice (some ⟨g, 0, none⟩) 1 1 ∧ NgS W g s q cs (ngL 4 (some m))) (fun _ _ _ h hb => let ⟨g, h1, h2⟩ := h; ⟨g, h1, h2.far hb⟩) ?_ ?_ ?_
      · intro x; go_simp; done
      · intro x W R hW hF hR;have hu := hF.1.2 rfl rfl rfl;simp only [AK.fact] at hu;obtain ⟨ao', n', c', tx', rs', hx2, hl, hf⟩ := hu;simp only [hx2];clear hF;unfold addAt
        go_simp
        simp only [addUpon];exact hR _ _ ⟨_, rfl, ngs_one (y := (5, some m, 1)) hl hf⟩ (alloc_far _ _)
      simp only [Act.put, List.setIfInBounds_toArray, List.set_cons_zero, List.set_cons_succ, List.length_cons, List.length_nil, Nat.zero_add, Nat.reduceAdd];refine a_opq (fun v W => ∃ g, v = .slice (some ⟨g, 0, none⟩) 1 1 ∧ NgS W g s q cs (ngL 4 (some m))) (fun _ _ _ h hb => let ⟨g, h1, h2⟩ := h; ⟨g, h1, h2.far hb⟩) ?_ ?_ ?_
      · intro x; go_simp; done
      · intro x W R hW hF hR;have hu := hF.1.2 rfl rfl rfl;simp only [AK.fact] at hu;clear hF;unfold addAt
        go_simp
        simp only [addUpon];exact hR _ _ hu (Below.refl _ _)
      simp only [Act.put, List.setIfInBounds_toArray, List.set_cons_zero, List.set_cons_succ, List.length_cons, List.length_nil, Nat.zero_add, Nat.reduceAdd];apply a_con
      · intro x; go_simp; done
      · intro x W R hW hF hR;clear hF;unfold addAt
        go_simp
        simp only [addUpon];exact hR _ (Below.refl _ _)
      simp only [Act.put, List.setIfInBounds_toArray, List.set_cons_zero, List.set_cons_succ];refine a_nil (by kernel_rfl) (by kernel_rfl) (by kernel_rfl) (fun _ _ h hb => ⟨h.1.far hb, h.2.far hb⟩) (fun _ _ _ _ => trivial) (fun _ _ => trivial) (⟨HN2.out.far (Below.refl _ _).drew, HL2.out.far (Below.refl _ _).drew⟩) ?_;intro x W hE hW hF hD;clear hD;obtain ⟨g, hx, hs⟩ := hF.2.1.2 rfl;simp only [hx];have hbl := (hW rfl).1.bel;clear hF hW hE hx
      go_wp2_with fail
      go_ret2
      exact ⟨g, rfl, hs, hbl⟩
    · go_wp2_with fail
      generalize w3.alloc (.cells #[.int .i64 s, .slice ao n c, .string tx] 26) = w4 at *;generalize w3.heap.size = B at *;clear p0 p1 p2 p3 p4 hla;refine add_region [[], [0], [0, 1], [], [3], [3, 4], [], [6], [0, 1, 2, 3, 4, 5, 6, 7], [0, 1, 2, 3, 4, 5, 6, 7, 8], [0, 1, 2, 3, 4, 5, 6, 7, 8, 9], [0, 1, 2, 3, 4, 5, 6, 7, 8, 9, 10]] (fun W => NB2 w W 5 s a1 n1 c1 t1 tm B ao n c tx ∧ LV W (.agg #[.int .i64 s, .slice ao n c, .string tx]) s 79 (-1 * q) rs) (fun _ => True) ?_
      iterate 5
        apply a_con
        · intro x; go_simp; done
        · intro x W R hW hF hR;have p0 := heap_cell hW.1.a 0;have p1 := heap_cell hW.1.a 1;have p2 := heap_cell hW.1.a 2;have p3 := heap_cell hW.1.a 3;have p4 := heap_cell hW.1.a 4;have b0 := heap_cell hW.1.b 0;have b1 := heap_cell hW.1.b 1;have b2 := heap_cell hW.1.b 2;clear hF;unfold addAt
          go_simp
          simp only [addUpon];exact hR _ (Below.refl _ _)
        simp only [Act.put, List.setIfInBounds_toArray, List.set_cons_zero, List.set_cons_succ]
      refine a_opq (fun v W => MuV s q cs 1 v W) (fun _ _ _ h hb => h.far hb) ?_ ?_ ?_
      · intro x; go_simp; done
      · intro x W R hW hF hR;clear hF;unfold addAt
        go_simp
        simp only [addUpon];refine (H1.out W hW.1.bel).mono ?_;rintro e w' ⟨v, rfl, hv, hb⟩;exact ⟨v, rfl, hR _ _ hv hb⟩
      simp only [Act.put, List.setIfInBounds_toArray, List.set_cons_zero, List.set_cons_succ, List.length_cons, List.length_nil, Nat.zero_add, Nat.reduceAdd]
      iterate 2
        apply a_con
        · intro x; go_simp; done
        · intro x W R hW hF hR;have p0 := heap_cell hW.1.a 0;have p1 := heap_cell hW.1.a 1;have p2 := heap_cell hW.1.a 2;have p3 := heap_cell hW.1.a 3;have p4 := heap_cell hW.1.a 4;have b0 := heap_cell hW.1.b 0;have b1 := heap_cell hW.1.b 1;have b2 := heap_cell hW.1.b 2;clear hF;unfold addAt
          go_simp
          simp only [addUpon];exact hR _ (Below.refl _ _)
        simp only [Act.put, List.setIfInBounds_toArray, List.set_cons_zero, List.set_cons_succ]
      refine a_opq (fun v W => NgV s q cs (4, some m, 1) v W) (fun _ _ _ h hb => h.far hb) ?_ ?_ ?_
      · intro x; go_simp; done
      · intro x W R hW hF hR;have hu := hF.2.2.1.2 rfl rfl rfl;simp only [AK.fact] at hu;obtain ⟨ao', n', c', tx', rs', hx2, hl, hf⟩ := hu;rw [hx2] at hl;simp only [hx2];clear hF;unfold addAt
        go_simp
        simp only [addUpon];refine hR _ _ ⟨ao', n', c', tx', rs', ?_, hl, hf⟩ (Below.refl _ _);rw [← HTM.out, show IntKind.i64.wrap 4 = 4 from by decide]
      simp only [Act.put, List.setIfInBounds_toArray, List.set_cons_zero, List.set_cons_succ, List.length_cons, List.length_nil, Nat.zero_add, Nat.reduceAdd];refine a_opq (fun v W => ∃ g, v = .slice (some ⟨g, 0, none⟩) 1 1 ∧ NgS W g s q cs (ngL 5 (some m))) (fun _ _ _ h hb => let ⟨g, h1, h2⟩ := h; ⟨g, h1, h2.far hb⟩) ?_ ?_ ?_
      · intro x; go_simp; done
      · intro x W R hW hF hR;have hu := hF.1.2 rfl rfl rfl;simp only [AK.fact] at hu;obtain ⟨ao', n', c', tx', rs', hx2, hl, hf⟩ := hu;simp only [hx2];clear hF;unfold addAt
        go_simp
        simp only [addUpon];exact hR _ _ ⟨_, rfl, ngs_one (y := (4, some m, 1)) hl hf⟩ (alloc_far _ _)
      simp only [Act.put, List.setIfInBounds_toArray, List.set_cons_zero, List.set_cons_succ, List.length_cons, List.length_nil, Nat.zero_add, Nat.reduceAdd];refine a_opq (fun v W => ∃ g, v = .slice (some ⟨g, 0, none⟩) 1 1 ∧ NgS W g s q cs (ngL 5 (some m))) (fun _ _ _ h hb => let ⟨g, h1, h2⟩ := h; ⟨g, h1, h2.far hb⟩) ?_ ?_ ?_
      · intro x; go_simp; done
      · intro x W R hW hF hR;have hu := hF.1.2 rfl rfl rfl;simp only [AK.fact] at hu;clear hF;unfold addAt
        go_simp
        simp only [addUpon];exact hR _ _ hu (Below.refl _ _)
      simp only [Act.put, List.setIfInBounds_toArray, List.set_cons_zero, List.set_cons_succ, List.length_cons, List.length_nil, Nat.zero_add, Nat.reduceAdd];apply a_con
      · intro x; go_simp; done
      · intro x W R hW hF hR;clear hF;unfold addAt
        go_simp
        simp only [addUpon];exact hR _ (Below.refl _ _)
      simp only [Act.put, List.setIfInBounds_toArray, List.set_cons_zero, List.set_cons_succ];refine a_nil (by kernel_rfl) (by kernel_rfl) (by kernel_rfl) (fun _ _ h hb => ⟨h.1.far hb, h.2.far hb⟩) (fun _ _ _ _ => trivial) (fun _ _ => trivial) (⟨HN2.out.far (Below.refl _ _).drew, HL2.out.far (Below.refl _ _).drew⟩) ?_;intro x W hE hW hF hD;clear hD;obtain ⟨g, hx, hs⟩ := hF.2.1.2 rfl;simp only [hx];have hbl := (hW rfl).1.bel;clear hF hW hE hx
      go_wp2_with fail
      go_ret2
      exact ⟨g, rfl, hs, hbl⟩
end
end Go.Proofs.YteoklapcifonaaaGreatDoor
/- LinearNegate's walk. -/
namespace Go.Proofs.YteoklapcifonaaaGreatDoor
open Go.RowKit Nmx

/-- a negation in a slice -/
structure NgAt (w : World) (g i : Nat) (s : Int) (q : Rat) (cs : List (List UInt8 × Rat)) (y : Int × Option Int × Rat) (ao : Option Addr) (n cap : Nat) (tx : ByteArray) (rs : List (List UInt8 × Rat)) : Prop where
  c0 : w.cell? ⟨g, i * 5, none⟩ = some (.int .i64 y.1)
  c1 : w.cell? ⟨g, i * 5 + 1, none⟩ = some (.int .i64 s)
  c2 : w.cell? ⟨g, i * 5 + 2, none⟩ = some (.slice ao n cap)
  c3 : w.cell? ⟨g, i * 5 + 3, none⟩ = some (.string tx)
  c4 : w.cell? ⟨g, i * 5 + 4, none⟩ = some (.string (TXo y.2.1))
  l : LV w (.agg #[.int .i64 s, .slice ao n cap, .string tx]) s 79 (y.2.2 * q) rs
  f : ∀ m, cof rs m = y.2.2 * cof cs m
theorem NgAt.far {w w' : World} {g i : Nat} {s : Int} {q : Rat} {cs : List (List UInt8 × Rat)} {y : Int × Option Int × Rat} {ao : Option Addr} {n cap : Nat} {tx : ByteArray} {rs : List (List UInt8 × Rat)} (h : NgAt w g i s q cs y ao n cap tx rs) (hb : Below w.heap.size w w') : NgAt w' g i s q cs y ao n cap tx rs := by
  have hc : ∀ {a v}, w.cell? a = some v → w'.cell? a = some v := fun hv => (hb.cell (World.block_lt_of_cell? _ _ hv)).trans hv
  exact ⟨hc h.c0, hc h.c1, hc h.c2, hc h.c3, hc h.c4, h.l.far hb, h.f⟩
theorem ConM.mono {r s : Int} {d e : Nat} {M : Option Int} (h : ConM r s d M) (hd : d ≤ e) : ConM r s e M := by
  cases M with
  | none => exact h
  | some m => exact ⟨h.1, h.2.1, h.2.2.1, h.2.2.2.mono hd⟩
theorem holdsL {d : Nat} {w : World} {r s : Int} {a1 : Option Addr} {n1 c1 : Nat} {t1 : ByteArray} {p : Rat} {cs : List (List UInt8 × Rat)} {M : Option Int} {ve : Value} {es : List (List UInt8 × Rat)} (h : LV w (.agg #[.int .i64 s, .slice a1 n1 c1, .string t1]) s d p cs) (hk : ConM r s d M) (he : EV w ve s es) (hd : d ≤ 400) (hE : Env w) :
    Calls Tryz.prog 35 #[.agg #[.int .i64 r, .int .i64 s, .slice a1 n1 c1, .string t1, .string (TXo M)], ve] w fun e w' => e = .returned (.tuple #[.bool (holdF r M (evS p cs (cof es))), .bool true]) ∧ Below w.heap.size w w' := by
  have hho := fun W (hW : Below w.heap.size w W) => holds_any (h.far hW) hk (he.far hW) hd (hE.far hW)
  generalize holdF r M (evS p cs (cof es)) = b at *;generalize TXo M = tm at *;have HHO := Lib.hid hho;have HA := Lib.hid (heap_alloc_new w (.cells #[.int .i64 r, .int .i64 s, .slice a1 n1 c1, .string t1, .string tm] 39));have HBL := Lib.hid (alloc_far w (.cells #[.int .i64 r, .int .i64 s, .slice a1 n1 c1, .string t1, .string tm] 39));clear hho h hk he hE
  go_enter Tryz.func35, Tryz.ntmps35
  go_wp2_with fail
  refine (HHO.out _ HBL.out).mono ?_;rintro e w1 ⟨rfl, hb⟩;replace HBL := Lib.hid (HBL.out.trans (hb.mono HBL.out.size));clear hb
  go_wp2
  go_ret2
  exact ⟨rfl, HBL.out⟩
theorem CX.grown {w w' : World} {S : Nat} {r s : Int} {ao : Option Addr} {n cap : Nat} {tx tm : ByteArray} {d : Nat} {c : Rat} {cs : List (List UInt8 × Rat)} {C : Nat} {bo : Option Addr} {m cp : Nat} (h : CX w S r s ao n cap tx tm d c cs) (hc : Ch C bo m cp w) (hS : S < C) (hg : w.grownBy w' (some C)) : CX w' S r s ao n cap tx tm d c cs :=
  ⟨(hg.block _ (lt_of_heap h.h) (fun e => by have := Option.some.inj e; omega)).trans h.h, h.l.grown hc hg⟩
section
set_option maxRecDepth 100000
set_option maxHeartbeats 8000000
theorem lawNegate_any (al : Option Addr) (ll cl : Nat) (am : Option Addr) (lm cm : Nat) (w : World) (hE : Env w) (hl : ArgI w al ll cl) (hm : ArgI w am lm cm) :
    Calls Tryz.prog 11 #[.slice al ll cl, .slice am lm cm] w fun e w' => e = .returned (.bool true) ∧ Below w.heap.size w w' := by
  have HE := Lib.hid hE;have HAl := Lib.hid hl;have HAm := Lib.hid hm;clear hE hl hm
  go_enter Tryz.func11, Tryz.ntmps11
  go_wp2_with fail
  refine (new_any al ll cl _ HAl.out).mono ?_;rintro e w1 ⟨rfl, rfl⟩
  go_wp2_with fail
  refine (constraint_any _ _ _ _ _ (ch_newL HAl.out)).mono ?_;rintro e w1 ⟨r, s, cs, q, bo, m, cp, tx, tm, rfl, lc, hok, -, hg⟩;have HB := Lib.hid (new_far hg);have LC := Lib.hid lc;have HOK := Lib.hid hok;clear hg lc hok HAl
  go_wp2_with fail
  have HXc := Lib.hid (CX.new (r := r) (tm := tm) LC.out);replace HB := Lib.hid (HB.out.trans ((alloc_far w1 (.cells #[.int .i64 r, .int .i64 s, .slice bo m cp, .string tx, .string tm] 39)).mono HB.out.size));clear LC;generalize w1.alloc (.cells #[.int .i64 r, .int .i64 s, .slice bo m cp, .string tx, .string tm] 39) = w2 at *;generalize w1.heap.size = S at *;refine add_region [[], [0], [], [2], [2, 3], [0, 1, 2, 3, 4], [0, 1, 2, 3, 4, 5]] (fun W => CX W S r s bo m cp tx tm 26 q cs ∧ Below w.heap.size w W) (fun _ => True) ?_;apply a_con
  · intro x; go_simp; done
  · intro x W R hW hF hR;clear hF;unfold addAt
    go_simp
    simp only [addUpon];exact hR _ (Below.refl _ _)
  simp only [Act.put, List.setIfInBounds_toArray, List.set_cons_zero, List.set_cons_succ];refine a_opq (fun u W => ∃ C', u = .pointer (some ⟨C', 0, none⟩) ∧ Ch C' am (min lm 400) cm W ∧ w.heap.size ≤ C' ∧ S < C') (fun _ _ _ h hb => let ⟨C', h1, h2, h3, h4⟩ := h; ⟨C', h1, h2.call hb, h3, h4⟩) ?_ ?_ ?_
  · intro x; go_simp; done
  · intro x W R hW hF hR;clear hF;unfold addAt
    go_simp
    simp only [addUpon];refine (new_any am lm cm W (HAm.out.far hW.2)).mono ?_;rintro e w' ⟨rfl, rfl⟩;exact ⟨_, rfl, hR _ _ ⟨W.heap.size, rfl, ch_newL (HAm.out.far hW.2), hW.2.size, lt_of_heap hW.1.h⟩ (alloc_far _ _)⟩
  simp only [Act.put, List.setIfInBounds_toArray, List.set_cons_zero, List.set_cons_succ, List.length_cons, List.length_nil, Nat.zero_add]
  iterate 3
    apply a_con
    · intro x; go_simp; done
    · intro x W R hW hF hR;have c0 := heap_cell hW.1.h 0;have c1 := heap_cell hW.1.h 1;clear hF;unfold addAt
      go_simp
      simp only [addUpon];exact hR _ (Below.refl _ _)
    simp only [Act.put, List.setIfInBounds_toArray, List.set_cons_zero, List.set_cons_succ]
  refine a_wrt (fun x W => ∃ es, EV W (x 5) s es ∧ CX W S r s bo m cp tx tm 26 q cs ∧ Below w.heap.size w W) (fun _ _ _ h hb => let ⟨es, h1, h⟩ := h; ⟨es, h1.far hb, ⟨h.1.far hb, h.2.trans (hb.mono h.2.size)⟩⟩) (fun x x' w hx hT => by have e := hx 5 (.inl rfl); rw [e] at hT; exact hT) ?_ ?_ ?_
  · intro x; go_simp; done
  · intro x W R hW hF hD hR;have hu := hF.2.2.2.1.2 rfl rfl rfl;simp only [AK.fact] at hu;obtain ⟨C', hx, hch, hC1, hC2⟩ := hu;simp only [hx];clear hF hD;unfold addAt
    go_simp
    simp only [addUpon];refine (linearEnv_any C' am (min lm 400) cm s W hch).mono ?_;rintro e w' ⟨es, v, rfl, hev, hc, hg⟩;refine ⟨_, rfl, hR _ _ ⟨es, ?_, hW.1.grown hch hC2 hg, hW.2.grown hg hW.2.size (fun k e => by cases e; exact hC1)⟩ trivial hg.size⟩;show EV w' (updX x 5 v 5) s es;rw [updX_self];exact hev
  simp only [Act.put, List.setIfInBounds_toArray, List.set_cons_zero, List.set_cons_succ];refine a_freX (fun x => x 6 = x 5) (fun x x' hx h => by rw [← hx 6 (.inl rfl), ← hx 5 (.inr (List.contains_iff_mem.1 rfl))]; exact h) ?_ ?_ ?_
  · intro x; go_simp; done
  · intro x W R hW hF hR;clear hF;unfold addAt
    go_simp
    simp only [addUpon];refine hR _ _ ?_ (Below.refl _ _);show updX x 6 _ 6 = updX x 6 _ 5;rw [updX_self, updX_ne (i := 6) (j := 5) _ _ (by decide)]
  simp only [Act.put, List.setIfInBounds_toArray, List.set_cons_zero, List.set_cons_succ, List.length_cons, List.length_nil, Nat.zero_add, Nat.reduceAdd];refine a_nil (by kernel_rfl) (by kernel_rfl) (by kernel_rfl) (fun _ _ h hb => ⟨h.1.far hb, h.2.trans (hb.mono h.2.size)⟩) (fun _ _ _ _ => trivial) (fun _ _ => trivial) (⟨HXc.out.far (Below.refl _ _).drew, HB.out.trans ((Below.refl _ _).drew.mono HB.out.size)⟩) ?_;intro x W hE hW hF hD;clear hD;obtain ⟨es, hev, hxc, hbl⟩ := hF.2.1.2 rfl;have hx := hF.1.1;simp only [AK.free] at hx;simp only [hx];have HEV := Lib.hid hev;have HXc2 := Lib.hid hxc;have HB2 := Lib.hid hbl;generalize x 5 = ve at *;clear hF hW hE hx hev hxc hbl;obtain ⟨M, hM, hk⟩ := con_mod HOK.out;have HL0 := Lib.hid (HXc2.out.l.good.1);have HN1 : Hid (∀ W, Below w.heap.size w W → LV W (.agg #[.int .i64 s, .slice bo m cp, .string tx]) s 26 q cs → Calls Tryz.prog 46 #[.agg #[.int .i64 r, .int .i64 s, .slice bo m cp, .string tx, .string tm]] W (NegP r s M q cs W)) := Lib.hid (fun W hW hl => by rw [hM]; exact negL hl hk (HE.out.far hW));have HN2 : Hid (∀ W, Below w.heap.size w W → LV W (.agg #[.int .i64 s, .slice bo m cp, .string tx]) s 26 q cs → Calls Tryz.prog 47 #[.agg #[.int .i64 r, .int .i64 s, .slice bo m cp, .string tx, .string tm]] W (NegP r s M q cs W)) := Lib.hid (fun W hW hl => by rw [hM]; exact refNegL hl hk);have HH1 : Hid (∀ W, Below w.heap.size w W → LV W (.agg #[.int .i64 s, .slice bo m cp, .string tx]) s 26 q cs → EV W ve s es → Calls Tryz.prog 35 #[.agg #[.int .i64 r, .int .i64 s, .slice bo m cp, .string tx, .string tm], ve] W fun e w' => e = .returned (.tuple #[.bool (holdF r M (evS q cs (cof es))), .bool true]) ∧ Below W.heap.size W w') := Lib.hid (fun W hW hl hev => by rw [hM]; exact holdsL hl hk hev (by decide) (HE.out.far hW))
  have HHJ : Hid (∀ W (y : Int × Option Int × Rat) ao n c x rs, y ∈ ngL r M → Below w.heap.size w W → LV W (.agg #[.int .i64 s, .slice ao n c, .string x]) s 79 (y.2.2 * q) rs → (∀ m, cof rs m = y.2.2 * cof cs m) → EV W ve s es → Calls Tryz.prog 35 #[.agg #[.int .i64 y.1, .int .i64 s, .slice ao n c, .string x, .string (TXo y.2.1)], ve] W fun e w' => e = .returned (.tuple #[.bool (holdF y.1 y.2.1 (y.2.2 * evS q cs (cof es))), .bool true]) ∧ Below W.heap.size W w') := Lib.hid (fun W y ao n c x rs hy hW hl hf hev => by
    have h1 := holdsL hl ((ng_ok hk y hy).mono (by decide)) hev (by decide) (HE.out.far hW);have h0 : y.2.2 ≠ 0 := by rcases ng_k y hy with h | h <;> rw [h] <;> decide
    rw [evS_mul h0 HL0.out.can hl.good.1.can hf] at h1
    exact h1)
  have hone := ng_one hk (evS q cs (cof es));have hln := ng_len r M;clear hM HOK HL0;unfold NegP at HN1 HN2;generalize evS q cs (cof es) = xv at *;generalize ngL r M = L at *;obtain ⟨hb, hhb⟩ : ∃ b, holdF r M xv = b := ⟨_, rfl⟩
  rw [hhb] at hone HH1;have HONE := Lib.hid hone;obtain ⟨k, hkl⟩ : ∃ k, L.length = k := ⟨_, rfl⟩
  have HKL := Lib.hid hkl;rw [hkl] at HN1 HN2 hln;clear hhb hone hk hkl;have c0 := heap_cell HXc2.out.h 0;have c1 := heap_cell HXc2.out.h 1;have c2 := heap_cell HXc2.out.h 2;have c3 := heap_cell HXc2.out.h 3;have c4 := heap_cell HXc2.out.h 4;have hlc := lt_of_heap HXc2.out.h
  go_wp2_with fail
  refine (HN1.out _ HB2.out HXc2.out.l).mono ?_;rintro e w3 ⟨g1, rfl, hs1, hb1⟩;replace HXc2 := Lib.hid (HXc2.out.far hb1);replace HEV := Lib.hid (HEV.out.far hb1);replace HB2 := Lib.hid (HB2.out.trans (hb1.mono HB2.out.size));have HS1 := Lib.hid hs1;clear hb1 hs1 c0 c1 c2 c3 c4 hlc HN1;have c0 := heap_cell HXc2.out.h 0;have c1 := heap_cell HXc2.out.h 1;have c2 := heap_cell HXc2.out.h 2;have c3 := heap_cell HXc2.out.h 3;have c4 := heap_cell HXc2.out.h 4;have hlc := lt_of_heap HXc2.out.h
  go_wp2_with fail
  refine (HN2.out _ HB2.out HXc2.out.l).mono ?_;rintro e w4 ⟨g2, rfl, hs2, hb1⟩;replace HXc2 := Lib.hid (HXc2.out.far hb1);replace HEV := Lib.hid (HEV.out.far hb1);replace HS1 := Lib.hid (HS1.out.far hb1);replace HB2 := Lib.hid (HB2.out.trans (hb1.mono HB2.out.size));have HS2 := Lib.hid hs2;clear hb1 hs2 c0 c1 c2 c3 c4 hlc HN2;have c0 := heap_cell HXc2.out.h 0;have c1 := heap_cell HXc2.out.h 1;have c2 := heap_cell HXc2.out.h 2;have c3 := heap_cell HXc2.out.h 3;have c4 := heap_cell HXc2.out.h 4;have hlc := lt_of_heap HXc2.out.h
  go_wp2_with fail
  refine (HH1.out _ HB2.out HXc2.out.l HEV.out).mono ?_;rintro e w5 ⟨rfl, hb1⟩;replace HEV := Lib.hid (HEV.out.far hb1);replace HS1 := Lib.hid (HS1.out.far hb1);replace HS2 := Lib.hid (HS2.out.far hb1);replace HB2 := Lib.hid (HB2.out.trans (hb1.mono HB2.out.size));clear hb1 c0 c1 c2 c3 c4 hlc HXc2 HH1;obtain ⟨c0, hc0⟩ : ∃ c0 : Nat, c0 = (if hb = true then 1 else 0) := ⟨_, rfl⟩
  have HC0 := Lib.hid hc0;clear hc0 HB HXc HAm;cases hb
  all_goals
    go_wp2_with fail
    go_loopg [11, 14] k (fun gh v11 v14 wr => ∃ (i : Nat), gh = k - i ∧ i ≤ k ∧ v14 = .int .i64 i ∧ v11 = .int .i64 ((c0 + ngC xv (L.take i) : Nat) : Int) ∧ NgS wr g1 s q cs L ∧ NgS wr g2 s q cs L ∧ EV wr ve s es ∧ Below w.heap.size w wr)
    case atStart => exact ⟨0, rfl, Nat.zero_le _, rfl, by rw [HC0.out]; rfl, HS1.out, HS2.out, HEV.out, HB2.out⟩
    case round =>
      obtain ⟨i, rfl, hi, rfl, rfl, hs1, hs2, hev, hbl⟩ := hrel;replace HS1 := Lib.hid hs1;replace HS2 := Lib.hid hs2;replace HEV := Lib.hid hev;replace HB2 := Lib.hid hbl;clear hs1 hs2 hev hbl;have hi0 : (0 : Int) ≤ (i : Int) := by omega
      by_cases hlt : i < k
      · have hlt' : (i : Int) < (k : Int) := by omega
        have hl : i < L.length := by rw [HKL.out]; exact hlt
        have hsn := @ngC_snoc xv L i hl;have hmem : L[i] ∈ L := List.getElem_mem hl;obtain ⟨ao1, n1, p1, x1, rs1, h0, h1, h2, h3, h4, h5, h6⟩ := HS1.out.at' i hl;obtain ⟨ao2, n2, p2, x2, rs2, j0, j1, j2, j3, j4, j5, j6⟩ := HS2.out.at' i hl;have HA1 := Lib.hid (⟨h0, h1, h2, h3, h4, h5, h6⟩ : NgAt wr g1 i s q cs L[i] ao1 n1 p1 x1 rs1);have HA2 := Lib.hid (⟨j0, j1, j2, j3, j4, j5, j6⟩ : NgAt wr g2 i s q cs L[i] ao2 n2 p2 x2 rs2);clear h0 h1 h2 h3 h4 h5 h6 j0 j1 j2 j3 j4 j5 j6;generalize L[i] = y at *;obtain ⟨bj, hbj⟩ : ∃ b, holdF y.1 y.2.1 (y.2.2 * xv) = b := ⟨_, rfl⟩
        rw [hbj] at hsn;obtain ⟨cj, hcj⟩ : ∃ c, ngC xv (L.take i) = c := ⟨_, rfl⟩
        rw [hcj] at hsn ⊢;have HBJ := Lib.hid hbj;have HSN := Lib.hid hsn;have HMEM := Lib.hid hmem
        have hcb : c0 + cj ≤ 1000 := by
          have h1 := HONE.out
          have h2 : ngC xv (L.take i) ≤ L.length := by
            unfold ngC;refine Nat.le_trans (List.countP_le_length) ?_;rw [List.length_take]; omega
          have h3 := HC0.out;rw [hcj, HKL.out] at h2;have h4 : c0 ≤ 1 := by rw [h3]; split <;> omega
          omega
        clear hsn hmem hl hbj hcj
        go_wp2_with fail
        refine add_region [[], [], [0, 1], [0, 1, 2], [], [], [4, 5], [4, 5, 6], [0, 1, 2, 3, 4, 5, 6, 7], [0, 1, 2, 3, 4, 5, 6, 7, 8]] (fun W => NgAt W g1 i s q cs y ao1 n1 p1 x1 rs1 ∧ NgAt W g2 i s q cs y ao2 n2 p2 x2 rs2 ∧ NgS W g1 s q cs L ∧ NgS W g2 s q cs L ∧ EV W ve s es ∧ Below w.heap.size w W) (fun _ => True) ?_
        iterate 8
          apply a_con
          · intro x; go_simp; done
          · intro x W R hW hF hR;have a0 := hW.1.c0;have a1 := hW.1.c1;have a2 := hW.1.c2;have a3 := hW.1.c3;have a4 := hW.1.c4;have b0 := hW.2.1.c0;have b1 := hW.2.1.c1;have b2 := hW.2.1.c2;have b3 := hW.2.1.c3;have b4 := hW.2.1.c4;clear hF;unfold addAt
            go_simp
            simp only [addUpon];exact hR _ (Below.refl _ _)
          simp only [Act.put, List.setIfInBounds_toArray, List.set_cons_zero, List.set_cons_succ]
        apply a_con
        · intro x; go_simp; done
        · intro x W R hW hF hR;clear hF;unfold addAt
          go_simp
          simp only [addUpon];refine (sameC hW.1.l hW.2.1.l (fun m => (hW.1.f m).trans (hW.2.1.f m).symm)).mono ?_;rintro e w' ⟨rfl, hb⟩;exact ⟨_, rfl, hR _ hb⟩
        simp only [Act.put, List.setIfInBounds_toArray, List.set_cons_zero, List.set_cons_succ];apply a_con
        · intro x; go_simp; done
        · intro x W R hW hF hR;clear hF;unfold addAt
          go_simp
          simp only [addUpon];exact hR _ (Below.refl _ _)
        simp only [Act.put, List.setIfInBounds_toArray, List.set_cons_zero, List.set_cons_succ];refine a_nil (by kernel_rfl) (by kernel_rfl) (by kernel_rfl) (fun _ _ h hb => ⟨h.1.far hb, h.2.1.far hb, h.2.2.1.far hb, h.2.2.2.1.far hb, h.2.2.2.2.1.far hb, h.2.2.2.2.2.trans (hb.mono h.2.2.2.2.2.size)⟩) (fun _ _ _ _ => trivial) (fun _ _ => trivial) (⟨HA1.out.far (Below.refl _ _).drew, HA2.out.far (Below.refl _ _).drew, HS1.out.far (Below.refl _ _).drew, HS2.out.far (Below.refl _ _).drew, HEV.out.far (Below.refl _ _).drew, HB2.out.trans ((Below.refl _ _).drew.mono HB2.out.size)⟩) ?_;intro x W hE hW hF hD;clear hD;have hc := hW rfl;clear hF hW hE;have HB3 := Lib.hid hc.2.2.2.2.2;have HS3 := Lib.hid hc.2.2.1;have HS4 := Lib.hid hc.2.2.2.1;have HE3 := Lib.hid hc.2.2.2.2.1;have hhj := HHJ.out W y ao1 n1 p1 x1 rs1 HMEM.out hc.2.2.2.2.2 hc.1.l hc.1.f hc.2.2.2.2.1;rw [HBJ.out] at hhj;have HHJ2 := Lib.hid hhj;have a0 := hc.1.c0;have a1 := hc.1.c1;have a2 := hc.1.c2;have a3 := hc.1.c3;have a4 := hc.1.c4;clear hc hhj
        go_wp2_with fail
        refine HHJ2.out.mono ?_;rintro e w6 ⟨rfl, hb1⟩;replace HB3 := Lib.hid (HB3.out.trans (hb1.mono HB3.out.size));replace HS3 := Lib.hid (HS3.out.far hb1);replace HS4 := Lib.hid (HS4.out.far hb1);replace HE3 := Lib.hid (HE3.out.far hb1);clear hb1 a0 a1 a2 a3 a4 HHJ2;cases bj
        · go_wp2_with fail
          go_roundg (k - (i + 1))
          case rel => exact ⟨i + 1, rfl, by omega, by go_num, by rw [HSN.out]; rfl, HS3.out, HS4.out, HE3.out, HB3.out⟩
          case measure => omega
        · go_wp2_with fail
          go_roundg (k - (i + 1))
          case rel => exact ⟨i + 1, rfl, by omega, by go_num, by rw [HSN.out]; go_num, HS3.out, HS4.out, HE3.out, HB3.out⟩
          case measure => omega
      · obtain rfl : i = k := by omega
        have hlt' : ¬ ((i : Int) < (i : Int)) := by omega
        have hall : L.take i = L := by rw [← HKL.out]; exact List.take_length
        have h1 : c0 + ngC xv (L.take i) = 1 := by rw [hall, HC0.out]; exact HONE.out
        rw [h1];clear hall h1
        go_wp2_with fail
        refine (awakeL _ (HE.out.far HB2.out)).mono ?_;rintro e w6 ⟨rfl, hb1⟩;replace HB2 := Lib.hid (HB2.out.trans (hb1.mono HB2.out.size));clear hb1
        go_wp2
        go_ret
        exact ⟨rfl, HB2.out⟩
end
end Go.Proofs.YteoklapcifonaaaGreatDoor

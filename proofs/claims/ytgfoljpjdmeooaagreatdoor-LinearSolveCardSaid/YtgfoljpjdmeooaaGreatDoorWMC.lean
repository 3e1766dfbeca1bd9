/- Normal at comparisons. -/
import Derived.Test.YtgfoljpjdmeooaaGreatDoorWMA
import Derived.Test.YtgfoljpjdmeooaaGreatDoorWMB
namespace Go.Proofs.YtgfoljpjdmeooaaGreatDoor
open Go.RowKit Nmx

/-- the normal form of a comparison: relation, constant, coefficients -/
def NF (r s : Int) (p : Rat) (cs : List (List UInt8 × Rat)) (r' : Int) (c' : Rat) (f' : List UInt8 → Rat) : Prop :=
  (cs = [] ∧ r' = (if cmpF r p then 1 else 2) ∧ c' = 0 ∧ f' = fun _ => 0) ∨
  (cs ≠ [] ∧ ((s = 3 ∧ r' = r ∧ c' = kF r cs * p ∧ f' = fun n => kF r cs * cof cs n) ∨
    (s = 2 ∧ r = 1 ∧ r' = 1 ∧ c' = ((ceI (kF r cs * p) : Int) : Rat) ∧ f' = fun n => kF r cs * cof cs n) ∨
    (s = 2 ∧ r = 2 ∧ r' = 1 ∧ c' = ((flI (kF r cs * p) + 1 : Int) : Rat) ∧ f' = fun n => kF r cs * cof cs n) ∨
    (s = 2 ∧ r = 3 ∧ (kF r cs * p).den = 1 ∧ r' = 3 ∧ c' = kF r cs * p ∧ f' = fun n => kF r cs * cof cs n) ∨
    (s = 2 ∧ r = 3 ∧ (kF r cs * p).den ≠ 1 ∧ r' = 2 ∧ c' = 0 ∧ f' = fun _ => 0)))
/-- .. and no error -/
def GetsNE (r s : Int) (d : Nat) (c : Rat) (f : List UInt8 → Rat) (w : World) (e : Ending) (w' : World) : Prop := ∃ rs ao n cp tx, e = .returned (.tuple #[.agg #[.int .i64 r, .int .i64 s, .slice ao n cp, .string tx, .string ⟨#[]⟩], .int .i64 0]) ∧ LV w' (.agg #[.int .i64 s, .slice ao n cp, .string tx]) s d c rs ∧ (∀ n, cof rs n = f n) ∧ Below w.heap.size w w'
section
set_option maxRecDepth 100000
set_option maxHeartbeats 8000000
theorem normalN_ne {d : Nat} {w : World} {r s : Int} {a1 : Option Addr} {n1 c1 : Nat} {t1 : ByteArray} {p : Rat} {cs : List (List UInt8 × Rat)} (h : LV w (.agg #[.int .i64 s, .slice a1 n1 c1, .string t1]) s d p cs) (hne : cs ≠ []) (hr : r = 1 ∨ r = 2 ∨ r = 3) (hs : s = 2 ∨ s = 3) {K : Nat} (hK : cs ≠ [] → DS K (kP cs)) (hdK : 2 * d + 1 ≤ K) (hd : K ≤ 640) (hE : Env w) :
    Calls Tryz.prog 22 #[.agg #[.int .i64 r, .int .i64 s, .slice a1 n1 c1, .string t1, .string ⟨#[]⟩]] w fun e w' => ∃ r' c' f', NF r s p cs r' c' f' ∧ GetsNE r' s (3 * K + 2) c' f' w e w' := by
  have hvl : ∀ W, Below w.heap.size w W → Calls Tryz.prog 27 #[.agg #[.int .i64 r, .int .i64 s, .slice a1 n1 c1, .string t1, .string ⟨#[]⟩]] W fun e w' => e = .returned (.bool true) ∧ Below W.heap.size W w' := fun W hW => validCmp (h.far hW) hs hr (by omega) (hE.far hW)
  have hnc : ∀ W, Below w.heap.size w W → Calls Tryz.prog 55 #[.agg #[.int .i64 r, .int .i64 s, .slice a1 n1 c1, .string t1, .string ⟨#[]⟩]] W fun e w' => ∃ r' c' f', NF r s p cs r' c' f' ∧ GetsN r' s (3 * K + 2) c' f' W e w' := fun W hW =>
    normalCmp (h.far hW) hne hr hs (hK hne) hdK hd (hE.far hW) rfl
      (fun h1 e w' hg => ⟨_, _, _, .inr ⟨hne, .inl ⟨h1, rfl, rfl, rfl⟩⟩, hg⟩)
      (fun h1 h2 e w' hg => ⟨_, _, _, .inr ⟨hne, .inr (.inl ⟨h1, h2, rfl, rfl, rfl⟩)⟩, hg⟩)
      (fun h1 h2 e w' hg => ⟨_, _, _, .inr ⟨hne, .inr (.inr (.inl ⟨h1, h2, rfl, rfl, rfl⟩))⟩, hg⟩)
      (fun h1 h2 h3 e w' hg => ⟨_, _, _, .inr ⟨hne, .inr (.inr (.inr (.inl ⟨h1, h2, h3, rfl, rfl, rfl⟩)))⟩, hg⟩)
      (fun h1 h2 h3 e w' hg => ⟨_, _, _, .inr ⟨hne, .inr (.inr (.inr (.inr ⟨h1, h2, h3, rfl, rfl, rfl⟩)))⟩, hg⟩)
  have hn1 : 0 < n1 := by rw [h.length.1]; exact List.length_pos_iff.2 hne
  have HVL := Lib.hid hvl;have HNC := Lib.hid hnc;obtain ⟨m1, m2, mb⟩ := newL2 w (.cells #[.int .i64 r, .int .i64 s, .slice a1 n1 c1, .string t1, .string ⟨#[]⟩] 39) (.cells #[.int .i64 0, .int .i64 0, .slice none 0 0, .string ⟨#[]⟩, .string ⟨#[]⟩] 39);have HM1 := Lib.hid m1;have HM2 := Lib.hid m2;have HMB := Lib.hid mb;have hnn : ((n1 : Int) == 0) = false := by rw [beq_eq_false_iff_ne]; omega
  have hnd : decide ((n1 : Int) = 0) = false := decide_eq_false (by omega);clear hvl hnc m1 m2 mb h hE hn1 hs;have q4 : (r == 4) = false := by rw [beq_eq_false_iff_ne]; omega
  have q5 : (r == 5) = false := by rw [beq_eq_false_iff_ne]; omega
  have d4 : decide (r = 4) = false := decide_eq_false (by omega);have d5 : decide (r = 5) = false := decide_eq_false (by omega)
  go_enter Tryz.func22, Tryz.ntmps22
  go_wp2_with fail
  generalize (w.alloc (.cells #[.int .i64 r, .int .i64 s, .slice a1 n1 c1, .string t1, .string ⟨#[]⟩] 39)).alloc (.cells #[.int .i64 0, .int .i64 0, .slice none 0 0, .string ⟨#[]⟩, .string ⟨#[]⟩] 39) = w3 at *;refine (HVL.out _ HMB.out).mono ?_;rintro e w4 ⟨rfl, hb⟩;have HA4 := Lib.hid ((hb.block _ (lt_of_heap HM1.out)).trans HM1.out);have HR4 := Lib.hid ((hb.block _ (lt_of_heap HM2.out)).trans HM2.out);have HB4 := Lib.hid (HMB.out.trans (hb.mono HMB.out.size));clear hb;have p0 := heap_cell HA4.out 0;have p1 := heap_cell HA4.out 1;have p2 := heap_cell HA4.out 2;have p3 := heap_cell HA4.out 3;have p4 := heap_cell HA4.out 4
  go_wp2_with fail
  refine (HNC.out _ HB4.out).mono ?_;rintro e w5 ⟨r', c', f', hnf, rs, ao, n, cp, tx, rfl, hl, hf, hb⟩;have HR5 := Lib.hid ((hb.block _ (lt_of_heap HR4.out)).trans HR4.out);have HB5 := Lib.hid (HB4.out.trans (hb.mono HB4.out.size));have HL := Lib.hid hl;have HF := Lib.hid hf;have HNF := Lib.hid hnf;clear hb hl hf hnf p0 p1 p2 p3 p4;have r0 := heap_cell HR5.out 0;have r1 := heap_cell HR5.out 1;have r2 := heap_cell HR5.out 2;have r3 := heap_cell HR5.out 3;have r4 := heap_cell HR5.out 4;have fr := fun i => heap_fz HR5.out i
  go_wp2_with fail
  exact end_con2 rfl rfl rfl rfl (set5_heap HR5.out _ _ _ _ _) ⟨r', c', f', HNF.out, rs, ao, n, cp, tx, rfl, HL.out.but HR5.out (by decide) (fun g hg => set5_other _ _ _ _ _ hg), HF.out, set5_below HB5.out (by omega) _ _ _ _ _⟩
/-- the boxes of Normal -/
structure NBX (w W : World) (r s : Int) (a1 : Option Addr) (n1 c1 : Nat) (t1 : ByteArray) : Prop where
  a : W.heap[w.heap.size]? = some (.cells #[.int .i64 r, .int .i64 s, .slice a1 n1 c1, .string t1, .string ⟨#[]⟩] 39 (0, 0))
  r : W.heap[w.heap.size + 1]? = some (.cells #[.int .i64 0, .int .i64 0, .slice none 0 0, .string ⟨#[]⟩, .string ⟨#[]⟩] 39 (0, 0))
  bel : Below w.heap.size w W
theorem NBX.far {w W W' : World} {r s : Int} {a1 : Option Addr} {n1 c1 : Nat} {t1 : ByteArray} (h : NBX w W r s a1 n1 c1 t1) (hb : Below W.heap.size W W') : NBX w W' r s a1 n1 c1 t1 :=
  ⟨(hb.block _ (lt_of_heap h.a)).trans h.a, (hb.block _ (lt_of_heap h.r)).trans h.r, h.bel.trans (hb.mono h.bel.size)⟩
theorem normalN_nil {d : Nat} {w : World} {r s : Int} {a1 : Option Addr} {n1 c1 : Nat} {t1 : ByteArray} {p : Rat} (h : LV w (.agg #[.int .i64 s, .slice a1 n1 c1, .string t1]) s d p []) (hr : r = 1 ∨ r = 2 ∨ r = 3) (hs : s = 2 ∨ s = 3) {K : Nat} (hdK : 2 * d + 1 ≤ K) (hd : K ≤ 640) (hE : Env w) :
    Calls Tryz.prog 22 #[.agg #[.int .i64 r, .int .i64 s, .slice a1 n1 c1, .string t1, .string ⟨#[]⟩]] w fun e w' => ∃ r' c' f', NF r s p [] r' c' f' ∧ GetsNE r' s (3 * K + 2) c' f' w e w' := by
  have hvl : ∀ W, Below w.heap.size w W → Calls Tryz.prog 27 #[.agg #[.int .i64 r, .int .i64 s, .slice a1 n1 c1, .string t1, .string ⟨#[]⟩]] W fun e w' => e = .returned (.bool true) ∧ Below W.heap.size W w' := fun W hW => validCmp (h.far hW) hs hr (by omega) (hE.far hW)
  obtain ⟨hn1, ht1, dp⟩ := h.length;have hmk : ∀ W, Below w.heap.size w W → Calls Tryz.prog 43 #[.string (TX p)] W (GetsQ p W) := fun W hW => mustT dp (by omega) W (hE.far hW)
  have hcm : ∀ W v, RV W v p → Calls Tryz.prog 54 #[v, .int .i64 r] W fun e w' => e = .returned (.bool (cmpF r p)) ∧ Below W.heap.size W w' := fun W v hv => compares_any hv hr
  obtain ⟨rr, hrr⟩ : ∃ rr : Int, (if cmpF r p then 1 else 2) = rr := ⟨_, rfl⟩
  have hcn := constant_any (cmpF r p) s;rw [hrr] at hcn;have HNF : Hid (NF r s p [] rr 0 fun _ => 0) := Lib.hid (.inl ⟨rfl, hrr.symm, rfl, rfl⟩);generalize cmpF r p = bn at *;have hn0 : n1 = 0 := hn1;rw [← ht1] at hmk;subst hn0;have HVL := Lib.hid hvl;have HMK := Lib.hid hmk;have HCM := Lib.hid hcm;have HCN := Lib.hid hcn;obtain ⟨m1, m2, mb⟩ := newL2 w (.cells #[.int .i64 r, .int .i64 s, .slice a1 0 c1, .string t1, .string ⟨#[]⟩] 39) (.cells #[.int .i64 0, .int .i64 0, .slice none 0 0, .string ⟨#[]⟩, .string ⟨#[]⟩] 39);have HK := Lib.hid (⟨m1, m2, mb⟩ : NBX w _ r s a1 0 c1 t1);clear hvl hmk hcm hcn m1 m2 mb h hE hn1 hs dp ht1 hrr;have q4 : (r == 4) = false := by rw [beq_eq_false_iff_ne]; omega
  have q5 : (r == 5) = false := by rw [beq_eq_false_iff_ne]; omega
  have d4 : decide (r = 4) = false := decide_eq_false (by omega);have d5 : decide (r = 5) = false := decide_eq_false (by omega)
  go_enter Tryz.func22, Tryz.ntmps22
  go_wp2_with fail
  generalize (w.alloc (.cells #[.int .i64 r, .int .i64 s, .slice a1 0 c1, .string t1, .string ⟨#[]⟩] 39)).alloc (.cells #[.int .i64 0, .int .i64 0, .slice none 0 0, .string ⟨#[]⟩, .string ⟨#[]⟩] 39) = w3 at *;refine (HVL.out _ HK.out.bel).mono ?_;rintro e w4 ⟨rfl, hb⟩;replace HK := Lib.hid (HK.out.far hb);clear hb;have p0 := heap_cell HK.out.a 0;have p2 := heap_cell HK.out.a 2
  go_wp2_with fail
  clear p0 p2;refine add_region [[], [0], [0, 1], [0, 1, 2], [], [4], [0, 1, 2, 3, 4, 5], [], [7], [7, 8], [0, 1, 2, 3, 4, 5, 6, 7, 8, 9], [0, 1, 2, 3, 4, 5, 6, 7, 8, 9, 10], [0, 1, 2, 3, 4, 5, 6, 7, 8, 9, 10, 11]] (fun W => NBX w W r s a1 0 c1 t1) (fun _ => True) ?_
  iterate 3
    apply a_con
    · intro x; go_simp; done
    · intro x W R hW hF hR;have p0 := heap_cell hW.a 0;have p1 := heap_cell hW.a 1;have p3 := heap_cell hW.a 3;clear hF;unfold addAt
      go_simp
      simp only [addUpon];exact hR _ (Below.refl _ _)
    simp only [Act.put, List.setIfInBounds_toArray, List.set_cons_zero, List.set_cons_succ]
  refine a_opq (fun v W => RV W v p) (fun _ _ _ h hb => h.far hb) ?_ ?_ ?_
  · intro x; go_simp; done
  · intro x W R hW hF hR;clear hF;unfold addAt
    go_simp
    simp only [addUpon];refine (HMK.out W hW.bel).mono ?_;rintro e w' ⟨v, rfl, hv, hb⟩;exact ⟨v, rfl, hR _ _ hv hb⟩
  simp only [Act.put, List.setIfInBounds_toArray, List.set_cons_zero, List.set_cons_succ, List.length_cons, List.length_nil, Nat.zero_add, Nat.reduceAdd]
  iterate 2
    apply a_con
    · intro x; go_simp; done
    · intro x W R hW hF hR;have p0 := heap_cell hW.a 0;have p1 := heap_cell hW.a 1;have p3 := heap_cell hW.a 3;clear hF;unfold addAt
      go_simp
      simp only [addUpon];exact hR _ (Below.refl _ _)
    simp only [Act.put, List.setIfInBounds_toArray, List.set_cons_zero, List.set_cons_succ]
  apply a_con
  · intro x; go_simp; done
  · intro x W R hW hF hR;have hu := hF.2.2.1.2 rfl rfl rfl;simp only [AK.fact] at hu;clear hF;unfold addAt
    go_simp
    simp only [addUpon];refine (HCM.out W _ hu).mono ?_;rintro e w' ⟨rfl, hb⟩;exact ⟨_, rfl, hR _ hb⟩
  simp only [Act.put, List.setIfInBounds_toArray, List.set_cons_zero, List.set_cons_succ]
  iterate 3
    apply a_con
    · intro x; go_simp; done
    · intro x W R hW hF hR;have p0 := heap_cell hW.a 0;have p1 := heap_cell hW.a 1;have p3 := heap_cell hW.a 3;clear hF;unfold addAt
      go_simp
      simp only [addUpon];exact hR _ (Below.refl _ _)
    simp only [Act.put, List.setIfInBounds_toArray, List.set_cons_zero, List.set_cons_succ]
  apply a_con
  · intro x; go_simp; done
  · intro x W R hW hF hR;clear hF;unfold addAt
    go_simp
    simp only [addUpon];refine (HCN.out W).mono ?_;rintro e w' ⟨rfl, hb⟩;exact ⟨_, rfl, hR _ hb⟩
  simp only [Act.put, List.setIfInBounds_toArray, List.set_cons_zero, List.set_cons_succ];refine a_wrt (fun _ W => W.heap[w.heap.size + 1]? = some (.cells #[.int .i64 rr, .int .i64 s, .slice none 0 0, .string ⟨#[48]⟩, .string ⟨#[]⟩] 39 (0, 0)) ∧ Below w.heap.size w W) (fun _ _ _ h hb => ⟨(hb.block _ (lt_of_heap h.1)).trans h.1, h.2.trans (hb.mono h.2.size)⟩) (fun _ _ _ _ h => h) ?_ ?_ ?_
  · intro x; go_simp; done
  · intro x W R hW hF hD hR;have z0 := heap_cell hW.r 0;have z1 := heap_cell hW.r 1;have z2 := heap_cell hW.r 2;have z3 := heap_cell hW.r 3;have z4 := heap_cell hW.r 4;have fr := fun i => heap_fz hW.r i
    clear hF hD;unfold addAt
    go_simp
    simp only [addUpon];refine hR _ _ ⟨set5_heap hW.r _ _ _ _ _, set5_below hW.bel (by omega) _ _ _ _ _⟩ trivial (by simp [World.setCell])
  simp only [Act.put];apply a_late
  · intro x; go_simp; done
  · intro x W R hW hF hR;clear hF hW;unfold addAt
    go_simp
    simp only [addUpon];exact hR _ (Below.refl _ _)
  simp only [Act.put, List.setIfInBounds_toArray, List.set_cons_zero, List.set_cons_succ];refine a_nil (by kernel_rfl) (by kernel_rfl) (by kernel_rfl) (fun _ _ h hb => h.far hb) (fun _ _ _ _ => trivial) (fun _ _ => trivial) (HK.out.far (Below.refl _ _).drew) ?_;intro x W hE hW hF hD;clear hD;obtain ⟨h1, h2⟩ := hF.2.1.2 rfl;have H1 := Lib.hid h1;have H2 := Lib.hid h2;clear hF hW h1 h2
  go_wp2_with fail
  exact end_con2 rfl rfl rfl rfl H1.out ⟨rr, 0, _, HNF.out, [], none, 0, 0, _, rfl, nilLV _ s _, fun _ => rfl, H2.out⟩
/-- Normal at any comparison -/
theorem normalN {d : Nat} {w : World} {r s : Int} {a1 : Option Addr} {n1 c1 : Nat} {t1 : ByteArray} {p : Rat} {cs : List (List UInt8 × Rat)} (h : LV w (.agg #[.int .i64 s, .slice a1 n1 c1, .string t1]) s d p cs) (hr : r = 1 ∨ r = 2 ∨ r = 3) (hs : s = 2 ∨ s = 3) {K : Nat} (hK : cs ≠ [] → DS K (kP cs)) (hdK : 2 * d + 1 ≤ K) (hd : K ≤ 640) (hE : Env w) :
    Calls Tryz.prog 22 #[.agg #[.int .i64 r, .int .i64 s, .slice a1 n1 c1, .string t1, .string ⟨#[]⟩]] w fun e w' => ∃ r' c' f', NF r s p cs r' c' f' ∧ GetsNE r' s (3 * K + 2) c' f' w e w' := by
  by_cases hne : cs = []
  · subst hne;exact normalN_nil h hr hs hdK hd hE
  · exact normalN_ne h hne hr hs hK hdK hd hE
end
end Go.Proofs.YtgfoljpjdmeooaaGreatDoor

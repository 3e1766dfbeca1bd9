/- Negations of constraints: what they are, and that exactly one is true. -/
import Derived.Test.YteoklapcifonaaaGreatDoorWQA
import Derived.Test.YteoklapcifonaaaGreatDoorWPD
import Derived.Test.YteoklapcifonaaaGreatDoorWTJ
namespace Go.Proofs.YteoklapcifonaaaGreatDoor
open Go.RowKit Nmx

/-- the negations: relation, modulus, factor of the expression -/
def ngL (r : Int) (M : Option Int) : List (Int × Option Int × Rat) :=
  if r = 1 then [(2, none, -1)] else if r = 2 then [(1, none, -1)] else if r = 3 then [(2, none, 1), (2, none, -1)] else if r = 4 then [(5, M, 1)] else [(4, M, 1)]
theorem ng_ok {r s : Int} {d : Nat} {M : Option Int} (h : ConM r s d M) : ∀ x ∈ ngL r M, ConM x.1 s d x.2.1 := by
  cases M with
  | none =>
    obtain ⟨hs, hr⟩ := h;rcases hr with rfl | rfl | rfl
    · exact fun x hx => by obtain rfl : x = _ := List.mem_singleton.1 hx; exact ⟨hs, .inr (.inl rfl)⟩
    · exact fun x hx => by obtain rfl : x = _ := List.mem_singleton.1 hx; exact ⟨hs, .inl rfl⟩
    · intro x hx;rcases List.mem_cons.1 hx with rfl | hx
      · exact ⟨hs, .inr (.inl rfl)⟩
      · obtain rfl : x = _ := List.mem_singleton.1 hx;exact ⟨hs, .inr (.inl rfl)⟩
  | some m =>
    obtain ⟨hs, hr, hm, hd⟩ := h;rcases hr with rfl | rfl
    · exact fun x hx => by obtain rfl : x = _ := List.mem_singleton.1 hx; exact ⟨hs, .inr rfl, hm, hd⟩
    · exact fun x hx => by obtain rfl : x = _ := List.mem_singleton.1 hx; exact ⟨hs, .inl rfl, hm, hd⟩
theorem ng_k {r : Int} {M : Option Int} : ∀ x ∈ ngL r M, x.2.2 = 1 ∨ x.2.2 = -1 := by
  unfold ngL;intro x hx
  split at hx
  · obtain rfl : x = _ := List.mem_singleton.1 hx; exact .inr rfl
  split at hx
  · obtain rfl : x = _ := List.mem_singleton.1 hx; exact .inr rfl
  split at hx
  · rcases List.mem_cons.1 hx with rfl | hx
    · exact .inl rfl
    · obtain rfl : x = _ := List.mem_singleton.1 hx; exact .inr rfl
  split at hx
  · obtain rfl : x = _ := List.mem_singleton.1 hx; exact .inl rfl
  · obtain rfl : x = _ := List.mem_singleton.1 hx; exact .inl rfl
theorem ng_len (r : Int) (M : Option Int) : 1 ≤ (ngL r M).length ∧ (ngL r M).length ≤ 2 := by
  unfold ngL
  split
  · exact ⟨Nat.le_refl _, Nat.le_succ 1⟩
  split
  · exact ⟨Nat.le_refl _, Nat.le_succ 1⟩
  split
  · exact ⟨Nat.le_succ 1, Nat.le_refl _⟩
  split
  · exact ⟨Nat.le_refl _, Nat.le_succ 1⟩
  · exact ⟨Nat.le_refl _, Nat.le_succ 1⟩
/-- how many of the first are true where the expression has the value x -/
def ngC (x : Rat) (L : List (Int × Option Int × Rat)) : Nat := L.countP fun y => holdF y.1 y.2.1 (y.2.2 * x)
theorem ngC_snoc {x : Rat} {L : List (Int × Option Int × Rat)} {j : Nat} (h : j < L.length) : ngC x (L.take (j + 1)) = ngC x (L.take j) + (if holdF L[j].1 L[j].2.1 (L[j].2.2 * x) then 1 else 0) := by
  unfold ngC;rw [List.take_succ_eq_append_getElem h, List.countP_append]
  congr 1
  rw [List.countP_cons, List.countP_nil, Nat.zero_add]
theorem ng_one {r s : Int} {d : Nat} {M : Option Int} (h : ConM r s d M) (x : Rat) : (if holdF r M x then 1 else 0) + ngC x (ngL r M) = 1 := by
  have hx : (-1 : Rat) * x = -x := by rw [Rat.neg_mul, Rat.one_mul]
  cases M with
  | none =>
    obtain ⟨-, hr⟩ := h;rcases hr with rfl | rfl | rfl
    · show (if cmpF 1 x then 1 else 0) + List.countP _ [((2 : Int), (none : Option Int), (-1 : Rat))] = 1;rw [List.countP_cons, List.countP_nil, Nat.zero_add];show (if cmpF 1 x then 1 else 0) + (if cmpF 2 (-1 * x) then 1 else 0) = 1;rw [hx, cmpF_le, cmpF_lt]
      by_cases h : x ≤ 0
      · rw [decide_eq_true h, decide_eq_false (show ¬ -x < 0 by grind)]; rfl
      · rw [decide_eq_false h, decide_eq_true (show -x < 0 by grind)]; rfl
    · show (if cmpF 2 x then 1 else 0) + List.countP _ [((1 : Int), (none : Option Int), (-1 : Rat))] = 1;rw [List.countP_cons, List.countP_nil, Nat.zero_add];show (if cmpF 2 x then 1 else 0) + (if cmpF 1 (-1 * x) then 1 else 0) = 1;rw [hx, cmpF_le, cmpF_lt]
      by_cases h : x < 0
      · rw [decide_eq_true h, decide_eq_false (show ¬ -x ≤ 0 by grind)]; rfl
      · rw [decide_eq_false h, decide_eq_true (show -x ≤ 0 by grind)]; rfl
    · show (if cmpF 3 x then 1 else 0) + List.countP _ [((2 : Int), (none : Option Int), (1 : Rat)), ((2 : Int), (none : Option Int), (-1 : Rat))] = 1;rw [List.countP_cons, List.countP_cons, List.countP_nil, Nat.zero_add];show (if cmpF 3 x then 1 else 0) + ((if cmpF 2 (-1 * x) then 1 else 0) + (if cmpF 2 (1 * x) then 1 else 0)) = 1;rw [hx, Rat.one_mul, cmpF_eq, cmpF_lt, cmpF_lt]
      by_cases h : x = 0
      · rw [decide_eq_true h, decide_eq_false (show ¬ -x < 0 by grind), decide_eq_false (show ¬ x < 0 by grind)]; rfl
      · by_cases h2 : x < 0
        · rw [decide_eq_false h, decide_eq_true h2, decide_eq_false (show ¬ -x < 0 by grind)]; rfl
        · rw [decide_eq_false h, decide_eq_false h2, decide_eq_true (show -x < 0 by grind)]; rfl
  | some m =>
    obtain ⟨-, hr, -⟩ := h;rcases hr with rfl | rfl
    · show (if holdF 4 (some m) x then 1 else 0) + List.countP _ [((5 : Int), some m, (1 : Rat))] = 1;rw [List.countP_cons, List.countP_nil, Nat.zero_add];show (if (decide ((x / (m : Rat)).den = 1) == true) then 1 else 0) + (if (decide ((1 * x / (m : Rat)).den = 1) == false) then 1 else 0) = 1;rw [Rat.one_mul];cases decide ((x / (m : Rat)).den = 1) <;> rfl
    · show (if holdF 5 (some m) x then 1 else 0) + List.countP _ [((4 : Int), some m, (1 : Rat))] = 1;rw [List.countP_cons, List.countP_nil, Nat.zero_add];show (if (decide ((x / (m : Rat)).den = 1) == false) then 1 else 0) + (if (decide ((1 * x / (m : Rat)).den = 1) == true) then 1 else 0) = 1;rw [Rat.one_mul];cases decide ((x / (m : Rat)).den = 1) <;> rfl
theorem evS_mul {k p : Rat} (hk : k ≠ 0) {cs rs : List (List UInt8 × Rat)} (hc : Can ltB cs) (hr : Can ltB rs) (hf : ∀ n, cof rs n = k * cof cs n) (v : List UInt8 → Rat) : evS (k * p) rs v = k * evS p cs v := by
  rw [nf_scl hk hc hr hf, evS_add, evS_scl, evS_add cs p, Rat.mul_add]
/-- a slice of negations: constraints whose expressions are multiples -/
structure NgS (w : World) (g : Nat) (s : Int) (q : Rat) (cs : List (List UInt8 × Rat)) (L : List (Int × Option Int × Rat)) : Prop where
  at' : ∀ i (h : i < L.length), ∃ ao n cap tx rs, w.cell? ⟨g, i * 5, none⟩ = some (.int .i64 L[i].1) ∧ w.cell? ⟨g, i * 5 + 1, none⟩ = some (.int .i64 s) ∧ w.cell? ⟨g, i * 5 + 2, none⟩ = some (.slice ao n cap) ∧ w.cell? ⟨g, i * 5 + 3, none⟩ = some (.string tx) ∧ w.cell? ⟨g, i * 5 + 4, none⟩ = some (.string (TXo L[i].2.1)) ∧
    LV w (.agg #[.int .i64 s, .slice ao n cap, .string tx]) s 79 (L[i].2.2 * q) rs ∧ ∀ m, cof rs m = L[i].2.2 * cof cs m
theorem NgS.far {w w' : World} {g : Nat} {s : Int} {q : Rat} {cs : List (List UInt8 × Rat)} {L : List (Int × Option Int × Rat)} (h : NgS w g s q cs L) (hb : Below w.heap.size w w') : NgS w' g s q cs L := by
  refine ⟨fun i hi => ?_⟩;obtain ⟨ao, n, cap, tx, rs, h0, h1, h2, h3, h4, h5, h6⟩ := h.at' i hi;have hc : ∀ {a v}, w.cell? a = some v → w'.cell? a = some v := fun hv => (hb.cell (World.block_lt_of_cell? _ _ hv)).trans hv
  exact ⟨ao, n, cap, tx, rs, hc h0, hc h1, hc h2, hc h3, hc h4, h5.far hb, h6⟩
/-- what Negate hands back -/
def NegP (r s : Int) (M : Option Int) (q : Rat) (cs : List (List UInt8 × Rat)) (w : World) (e : Ending) (w' : World) : Prop :=
  ∃ g, e = .returned (.tuple #[.slice (some ⟨g, 0, none⟩) (ngL r M).length (ngL r M).length, .int .i64 0]) ∧ NgS w' g s q cs (ngL r M) ∧ Below w.heap.size w w'
end Go.Proofs.YteoklapcifonaaaGreatDoor
/- Negate. -/
namespace Go.Proofs.YteoklapcifonaaaGreatDoor
open Go.RowKit Nmx

/-- the two multiples as values -/
def MuV (s : Int) (q : Rat) (cs : List (List UInt8 × Rat)) (k : Rat) (v : Value) (W : World) : Prop := ∃ ao n c tx rs, v = .agg #[.int .i64 s, .slice ao n c, .string tx] ∧ LV W v s 79 (k * q) rs ∧ ∀ m, cof rs m = k * cof cs m
theorem MuV.far {s : Int} {q : Rat} {cs : List (List UInt8 × Rat)} {k : Rat} {v : Value} {W W' : World} (h : MuV s q cs k v W) (hb : Below W.heap.size W W') : MuV s q cs k v W' :=
  let ⟨ao, n, c, tx, rs, h1, h2, h3⟩ := h; ⟨ao, n, c, tx, rs, h1, h2.far hb, h3⟩
/-- .. in a box -/
def MuB (s : Int) (q : Rat) (cs : List (List UInt8 × Rat)) (k : Rat) (B : Nat) (W : World) : Prop := ∃ ao n c tx rs, W.heap[B]? = some (.cells #[.int .i64 s, .slice ao n c, .string tx] 26 (0, 0)) ∧ LV W (.agg #[.int .i64 s, .slice ao n c, .string tx]) s 79 (k * q) rs ∧ ∀ m, cof rs m = k * cof cs m
theorem MuB.far {s : Int} {q : Rat} {cs : List (List UInt8 × Rat)} {k : Rat} {B : Nat} {W W' : World} (h : MuB s q cs k B W) (hb : Below W.heap.size W W') : MuB s q cs k B W' :=
  let ⟨ao, n, c, tx, rs, h1, h2, h3⟩ := h; ⟨ao, n, c, tx, rs, (hb.block _ (lt_of_heap h1)).trans h1, h2.far hb, h3⟩
/-- the box of Negate: the constraint -/
structure NB1 (w W : World) (r s : Int) (a1 : Option Addr) (n1 c1 : Nat) (t1 tm : ByteArray) : Prop where
  a : W.heap[w.heap.size]? = some (.cells #[.int .i64 r, .int .i64 s, .slice a1 n1 c1, .string t1, .string tm] 39 (0, 0))
  bel : Below w.heap.size w W
theorem NB1.far {w W W' : World} {r s : Int} {a1 : Option Addr} {n1 c1 : Nat} {t1 tm : ByteArray} (h : NB1 w W r s a1 n1 c1 t1 tm) (hb : Below W.heap.size W W') : NB1 w W' r s a1 n1 c1 t1 tm :=
  ⟨(hb.block _ (lt_of_heap h.a)).trans h.a, h.bel.trans (hb.mono h.bel.size)⟩
theorem ngs_one {W : World} {s : Int} {q : Rat} {cs : List (List UInt8 × Rat)} {y : Int × Option Int × Rat} {ao : Option Addr} {n c : Nat} {tx : ByteArray} {rs : List (List UInt8 × Rat)} (h : LV W (.agg #[.int .i64 s, .slice ao n c, .string tx]) s 79 (y.2.2 * q) rs) (hf : ∀ m, cof rs m = y.2.2 * cof cs m) :
    NgS (W.alloc (.cells #[.int .i64 y.1, .int .i64 s, .slice ao n c, .string tx, .string (TXo y.2.1)] 39)) W.heap.size s q cs [y] := by
  have hn := heap_alloc_new W (.cells #[.int .i64 y.1, .int .i64 s, .slice ao n c, .string tx, .string (TXo y.2.1)] 39);refine ⟨fun i hi => ?_⟩;obtain rfl : i = 0 := by simp only [List.length_cons, List.length_nil] at hi; omega
  exact ⟨ao, n, c, tx, rs, heap_cell hn 0, heap_cell hn 1, heap_cell hn 2, heap_cell hn 3, heap_cell hn 4, h.far (alloc_far _ _), hf⟩
theorem ngs_two {W : World} {s : Int} {q : Rat} {cs : List (List UInt8 × Rat)} {y y' : Int × Option Int × Rat} {ao : Option Addr} {n c : Nat} {tx : ByteArray} {rs : List (List UInt8 × Rat)} (h : LV W (.agg #[.int .i64 s, .slice ao n c, .string tx]) s 79 (y.2.2 * q) rs) (hf : ∀ m, cof rs m = y.2.2 * cof cs m)
    {ao' : Option Addr} {n' c' : Nat} {tx' : ByteArray} {rs' : List (List UInt8 × Rat)} (h' : LV W (.agg #[.int .i64 s, .slice ao' n' c', .string tx']) s 79 (y'.2.2 * q) rs') (hf' : ∀ m, cof rs' m = y'.2.2 * cof cs m) :
    NgS (W.alloc (.cells #[.int .i64 y.1, .int .i64 s, .slice ao n c, .string tx, .string (TXo y.2.1), .int .i64 y'.1, .int .i64 s, .slice ao' n' c', .string tx', .string (TXo y'.2.1)] 39)) W.heap.size s q cs [y, y'] := by
  have hn := heap_alloc_new W (.cells #[.int .i64 y.1, .int .i64 s, .slice ao n c, .string tx, .string (TXo y.2.1), .int .i64 y'.1, .int .i64 s, .slice ao' n' c', .string tx', .string (TXo y'.2.1)] 39);refine ⟨fun i hi => ?_⟩;have : i = 0 ∨ i = 1 := by simp only [List.length_cons, List.length_nil] at hi; omega
  rcases this with rfl | rfl
  · exact ⟨ao, n, c, tx, rs, heap_cell hn 0, heap_cell hn 1, heap_cell hn 2, heap_cell hn 3, heap_cell hn 4, h.far (alloc_far _ _), hf⟩
  · exact ⟨ao', n', c', tx', rs', heap_cell hn 5, heap_cell hn 6, heap_cell hn 7, heap_cell hn 8, heap_cell hn 9, h'.far (alloc_far _ _), hf'⟩
section
set_option maxRecDepth 100000
set_option maxHeartbeats 8000000
theorem negL {w : World} {r s : Int} {a1 : Option Addr} {n1 c1 : Nat} {t1 : ByteArray} {q : Rat} {cs : List (List UInt8 × Rat)} {M : Option Int} (h : LV w (.agg #[.int .i64 s, .slice a1 n1 c1, .string t1]) s 26 q cs) (hk : ConM r s 26 M) (hE : Env w) :
    Calls Tryz.prog 46 #[.agg #[.int .i64 r, .int .i64 s, .slice a1 n1 c1, .string t1, .string (TXo M)]] w (NegP r s M q cs w) := by
  have hvl : ∀ W, Below w.heap.size w W → Calls Tryz.prog 31 #[.agg #[.int .i64 r, .int .i64 s, .slice a1 n1 c1, .string t1, .string (TXo M)]] W fun e w' => e = .returned (.bool true) ∧ Below W.heap.size W w' := fun W hW => by
    cases M with
    | none => exact validCmp (h.far hW) hk.1 hk.2 (by omega) (hE.far hW)
    | some m =>
      obtain ⟨rfl, hr, hm, hmd⟩ := hk;exact validDiv (h.far hW) hr hm (hmd.mono (by omega)) (by omega) (hE.far hW)
  have hsc : ∀ (k : Rat) W u, k = 1 ∨ k = -1 → Below w.heap.size w W → RV W u k → Calls Tryz.prog 55 #[.agg #[.int .i64 s, .slice a1 n1 c1, .string t1], u] W fun e w' => ∃ v, e = .returned v ∧ MuV s q cs k v w' ∧ Below W.heap.size W w' := fun k W u hk hW hu => by
    have dk : DS 26 k := by rcases hk with rfl | rfl; exact DS.one (by decide); exact (DS.one (by decide)).neg
    refine (scaleL (h.far hW) hu dk (by decide) (hE.far hW)).mono ?_;rintro e w' ⟨rs, v, rfl, hl, hf, hb⟩;obtain ⟨ao, n, c, x, rfl⟩ := lvOpen hl;exact ⟨_, rfl, ⟨ao, n, c, x, rs, rfl, hl, hf⟩, hb⟩
  obtain ⟨tm, htm⟩ : ∃ t, TXo M = t := ⟨_, rfl⟩
  rw [htm] at hvl ⊢;have HTM := Lib.hid htm;have HVL := Lib.hid hvl;have HSC := Lib.hid hsc;have HBX := Lib.hid (⟨heap_alloc_new w _, alloc_far w _⟩ : NB1 w (w.alloc (.cells #[.int .i64 r, .int .i64 s, .slice a1 n1 c1, .string t1, .string tm] 39)) r s a1 n1 c1 t1 tm);clear hvl hsc htm h hE
  go_enter Tryz.func46, Tryz.ntmps46
  go_wp2_with fail
  generalize w.alloc (.cells #[.int .i64 r, .int .i64 s, .slice a1 n1 c1, .string t1, .string tm] 39) = w1 at *;refine (HVL.out _ HBX.out.bel).mono ?_;rintro e w2 ⟨rfl, hb⟩;replace HBX := Lib.hid (HBX.out.far hb);clear hb
  go_wp2_with fail
  refine add_region [[], [0], [], [0, 1, 2], [], [4], [0, 1, 2, 3], [0, 1, 2, 3, 4, 5, 6], [], [], [0, 1, 2, 3, 4, 5, 6, 7, 8, 9], [0, 1, 2, 3, 4, 5, 6, 7, 8, 9, 10]] (fun W => NB1 w W r s a1 n1 c1 t1 tm) (fun _ => True) ?_
  iterate 2
    apply a_con
    · intro x; go_simp; done
    · intro x W R hW hF hR;have p0 := heap_cell hW.a 0;have p1 := heap_cell hW.a 1;have p2 := heap_cell hW.a 2;have p3 := heap_cell hW.a 3;have p4 := heap_cell hW.a 4;clear hF;unfold addAt
      go_simp
      simp only [addUpon];exact hR _ (Below.refl _ _)
    simp only [Act.put, List.setIfInBounds_toArray, List.set_cons_zero, List.set_cons_succ]
  refine a_opq (fun v W => RV W v (-1)) (fun _ _ _ h hb => h.far hb) ?_ ?_ ?_
  · intro x; go_simp; done
  · intro x W R hW hF hR;clear hF;unfold addAt
    go_simp
    simp only [addUpon];refine (smallNeg W).mono ?_;rintro e w' ⟨v, rfl, hv, hb⟩;exact ⟨v, rfl, hR _ _ hv hb⟩
  simp only [Act.put, List.setIfInBounds_toArray, List.set_cons_zero, List.set_cons_succ, List.length_cons, List.length_nil, Nat.zero_add, Nat.reduceAdd];refine a_opq (fun v W => MuV s q cs (-1) v W) (fun _ _ _ h hb => h.far hb) ?_ ?_ ?_
  · intro x; go_simp; done
  · intro x W R hW hF hR;have hu := hF.1.2 rfl rfl rfl;simp only [AK.fact] at hu;clear hF;unfold addAt
    go_simp
    simp only [addUpon];refine (HSC.out (-1) W _ (.inr rfl) hW.bel hu).mono ?_;rintro e w' ⟨v, rfl, hv, hb⟩;exact ⟨v, rfl, hR _ _ hv hb⟩
  simp only [Act.put, List.setIfInBounds_toArray, List.set_cons_zero, List.set_cons_succ, List.length_cons, List.length_nil, Nat.zero_add, Nat.reduceAdd]
  iterate 2
    apply a_con
    · intro x; go_simp; done
    · intro x W R hW hF hR;have p0 := heap_cell hW.a 0;have p1 := heap_cell hW.a 1;have p2 := heap_cell hW.a 2;have p3 := heap_cell hW.a 3;have p4 := heap_cell hW.a 4;clear hF;unfold addAt
      go_simp
      simp only [addUpon];exact hR _ (Below.refl _ _)
    simp only [Act.put, List.setIfInBounds_toArray, List.set_cons_zero, List.set_cons_succ]
  refine a_opq (fun v W => RV W v (1)) (fun _ _ _ h hb => h.far hb) ?_ ?_ ?_
  · intro x; go_simp; done
  · intro x W R hW hF hR;clear hF;unfold addAt
    go_simp
    simp only [addUpon];refine (oneQ W).mono ?_;rintro e w' ⟨v, rfl, hv, hb⟩;exact ⟨v, rfl, hR _ _ hv hb⟩
  simp only [Act.put, List.setIfInBounds_toArray, List.set_cons_zero, List.set_cons_succ, List.length_cons, List.length_nil, Nat.zero_add, Nat.reduceAdd];refine a_opq (fun v W => MuV s q cs (1) v W) (fun _ _ _ h hb => h.far hb) ?_ ?_ ?_
  · intro x; go_simp; done
  · intro x W R hW hF hR;have hu := hF.1.2 rfl rfl rfl;simp only [AK.fact] at hu;clear hF;unfold addAt
    go_simp
    simp only [addUpon];refine (HSC.out 1 W _ (.inl rfl) hW.bel hu).mono ?_;rintro e w' ⟨v, rfl, hv, hb⟩;exact ⟨v, rfl, hR _ _ hv hb⟩
  simp only [Act.put, List.setIfInBounds_toArray, List.set_cons_zero, List.set_cons_succ, List.length_cons, List.length_nil, Nat.zero_add, Nat.reduceAdd];refine a_new (fun B W => w.heap.size < B ∧ W.heap[B]? = some (.cells #[.int .i64 0, .slice none 0 0, .string ⟨#[]⟩] 26 (0, 0))) (fun _ _ _ h hb => ⟨h.1, (hb.block _ (lt_of_heap h.2)).trans h.2⟩) ?_ ?_ ?_
  · intro x; go_simp; done
  · intro x W R hW hF hR;clear hF;unfold addAt
    go_simp
    simp only [addUpon];exact hR _ ⟨lt_of_heap hW.a, heap_alloc_new _ _⟩ ((Below.refl _ _).alloc (Nat.le_refl _) _) (by simp)
  simp only [Act.put, List.setIfInBounds_toArray, List.set_cons_zero, List.set_cons_succ, List.length_cons, List.length_nil, Nat.zero_add, Nat.reduceAdd];refine a_new (fun B W => w.heap.size < B ∧ W.heap[B]? = some (.cells #[.int .i64 0, .slice none 0 0, .string ⟨#[]⟩] 26 (0, 0))) (fun _ _ _ h hb => ⟨h.1, (hb.block _ (lt_of_heap h.2)).trans h.2⟩) ?_ ?_ ?_
  · intro x; go_simp; done
  · intro x W R hW hF hR;clear hF;unfold addAt
    go_simp
    simp only [addUpon];exact hR _ ⟨lt_of_heap hW.a, heap_alloc_new _ _⟩ ((Below.refl _ _).alloc (Nat.le_refl _) _) (by simp)
  simp only [Act.put, List.setIfInBounds_toArray, List.set_cons_zero, List.set_cons_succ, List.length_cons, List.length_nil, Nat.zero_add, Nat.reduceAdd];refine a_wrt (fun x W => ∃ B8 B9, x 8 = .pointer (some ⟨B8, 0, none⟩) ∧ x 9 = .pointer (some ⟨B9, 0, none⟩) ∧ w.heap.size < B8 ∧ w.heap.size < B9 ∧ B8 ≠ B9 ∧ MuB s q cs (-1) B8 W ∧ W.heap[B9]? = some (.cells #[.int .i64 0, .slice none 0 0, .string ⟨#[]⟩] 26 (0, 0)) ∧ MuV s q cs 1 (x 7) W ∧ NB1 w W r s a1 n1 c1 t1 tm) (fun _ _ _ h hb => let ⟨B8, B9, h1, h2, h3, h4, h5, h6, h7, h8, h9⟩ := h; ⟨B8, B9, h1, h2, h3, h4, h5, h6.far hb, (hb.block _ (lt_of_heap h7)).trans h7, h8.far hb, h9.far hb⟩) (fun x x' w hx hT => let ⟨B8, B9, h1, h2, h3, h4, h5, h6, h7, h8, h9⟩ := hT; ⟨B8, B9, (hx 8 (.inr (List.contains_iff_mem.1 rfl))).symm.trans h1, (hx 9 (.inr (List.contains_iff_mem.1 rfl))).symm.trans h2, h3, h4, h5, h6, h7, by rw [← hx 7 (.inr (List.contains_iff_mem.1 rfl))]; exact h8, h9⟩) ?_ ?_ ?_
  · intro x; go_simp; done
  · intro x W R hW hF hD hR;have h3 := hF.2.2.2.2.2.2.1.2 rfl rfl rfl;have h7 := hF.2.2.1.2 rfl rfl rfl;have h8 := hF.2.1.2 rfl rfl rfl;have h9 := hF.1.2 rfl rfl rfl;have hd := hD 8 9 (List.contains_iff_mem.1 rfl) (List.contains_iff_mem.1 rfl) (by omega) rfl rfl;simp only [AK.fact] at h3 h7 h8 h9;obtain ⟨B8, hx8, hl8, hB8⟩ := h8;obtain ⟨B9, hx9, hl9, hB9⟩ := h9;have hne : B8 ≠ B9 := fun e => hd (by rw [hx8, hx9, e])
    obtain ⟨ao, n, c, tx, rs, hx3, hl, hf⟩ := h3;rw [hx3] at hl;simp only [hx8, hx3];have e0 := heap_cell hB8 0;have e1 := heap_cell hB8 1;have e2 := heap_cell hB8 2;have fr := fun i => heap_fz hB8 i
    clear hF hD hd;unfold addAt
    go_simp
    simp only [addUpon];have ho : ∀ g, g ≠ B8 → (((W.setCell ⟨B8, 0, none⟩ (.int .i64 s)).setCell ⟨B8, 1, none⟩ (.slice ao n c)).setCell ⟨B8, 2, none⟩ (.string tx)).heap[g]? = W.heap[g]? := fun g hg => set3_other _ _ _ hg
    have hbl := ((hW.bel.setCell (show w.heap.size ≤ B8 by omega) (p := ⟨B8, 0, none⟩) (.int .i64 s)).setCell (p := ⟨B8, 1, none⟩) (show w.heap.size ≤ B8 by omega) (.slice ao n c)).setCell (p := ⟨B8, 2, none⟩) (show w.heap.size ≤ B8 by omega) (.string tx);refine hR _ _ ⟨B8, B9, (updX_ne (i := 10) (j := 8) _ _ (by decide)).trans hx8, (updX_ne (i := 10) (j := 9) _ _ (by decide)).trans hx9, hl8, hl9, hne, ⟨ao, n, c, tx, rs, set3_heap hB8, hl.but hB8 (by decide) ho, hf⟩, (ho _ (Ne.symm hne)).trans hB9, ?_, ⟨(ho _ (by omega)).trans hW.a, hbl⟩⟩ trivial (by simp [World.setCell]);show MuV s q cs 1 (updX x 10 undef 7) _;rw [updX_ne (i := 10) (j := 7) _ _ (by decide)];obtain ⟨ao', n', c', tx', rs', hx7, hl', hf'⟩ := h7;rw [hx7] at hl' ⊢;exact ⟨ao', n', c', tx', rs', rfl, hl'.but hB8 (by decide) ho, hf'⟩
  simp only [Act.put];refine a_wrt2 (fun x W => ∃ B8 B9, x 8 = .pointer (some ⟨B8, 0, none⟩) ∧ x 9 = .pointer (some ⟨B9, 0, none⟩) ∧ MuB s q cs (-1) B8 W ∧ MuB s q cs 1 B9 W ∧ NB1 w W r s a1 n1 c1 t1 tm) (fun _ _ _ h hb => let ⟨B8, B9, h1, h2, h6, h7, h9⟩ := h; ⟨B8, B9, h1, h2, h6.far hb, h7.far hb, h9.far hb⟩) (fun x x' w hx hT => let ⟨B8, B9, h1, h2, h⟩ := hT; ⟨B8, B9, (hx 8 (.inr (List.contains_iff_mem.1 rfl))).symm.trans h1, (hx 9 (.inr (List.contains_iff_mem.1 rfl))).symm.trans h2, h⟩) ?_ ?_ ?_
  · intro x; go_simp; done
  · intro x W R hW hF hD hR;have hT := hF.1.2 rfl rfl rfl;simp only [AK.fact] at hT;obtain ⟨B8, B9, hx8, hx9, hl8, hl9, hne, hm8, hB9, hm7, hbx⟩ := hT;obtain ⟨ao, n, c, tx, rs, hx7, hl, hf⟩ := hm7;rw [hx7] at hl;simp only [hx9, hx7];have e0 := heap_cell hB9 0;have e1 := heap_cell hB9 1;have e2 := heap_cell hB9 2;have fr := fun i => heap_fz hB9 i
    clear hF hD;unfold addAt
    go_simp
    simp only [addUpon];have ho : ∀ g, g ≠ B9 → (((W.setCell ⟨B9, 0, none⟩ (.int .i64 s)).setCell ⟨B9, 1, none⟩ (.slice ao n c)).setCell ⟨B9, 2, none⟩ (.string tx)).heap[g]? = W.heap[g]? := fun g hg => set3_other _ _ _ hg
    have hbl := ((hbx.bel.setCell (show w.heap.size ≤ B9 by omega) (p := ⟨B9, 0, none⟩) (.int .i64 s)).setCell (p := ⟨B9, 1, none⟩) (show w.heap.size ≤ B9 by omega) (.slice ao n c)).setCell (p := ⟨B9, 2, none⟩) (show w.heap.size ≤ B9 by omega) (.string tx);obtain ⟨ao', n', c', tx', rs', h8, hl', hf'⟩ := hm8;exact hR _ _ ⟨B8, B9, (updX_ne (i := 11) (j := 8) _ _ (by decide)).trans hx8, (updX_ne (i := 11) (j := 9) _ _ (by decide)).trans hx9, ⟨ao', n', c', tx', rs', (ho _ hne).trans h8, hl'.but hB9 (by decide) ho, hf'⟩, ⟨ao, n, c, tx, rs, set3_heap hB9, hl.but hB9 (by decide) ho, hf⟩, ⟨(ho _ (by omega)).trans hbx.a, hbl⟩⟩ trivial (by simp [World.setCell])
  simp only [Act.put];refine a_nil (by kernel_rfl) (by kernel_rfl) (by kernel_rfl) (fun _ _ h hb => h.far hb) (fun _ _ _ _ => trivial) (fun _ _ => trivial) (HBX.out.far (Below.refl _ _).drew) ?_;intro x W hE hW hF hD;clear hD;have hT := hF.1.2 rfl;simp only [AK.fact] at hT;obtain ⟨B8, B9, hx8, hx9, ⟨ao, n, c, tx, rs, hb8, hl8, hf8⟩, ⟨ao', n', c', tx', rs', hb9, hl9, hf9⟩, hbx⟩ := hT;simp only [hx8, hx9];clear hF hW hE hx8 hx9;have HL8 := Lib.hid hl8;have HL9 := Lib.hid hl9;have HB := Lib.hid hbx.bel;have p0 := heap_cell hbx.a 0;have p4 := heap_cell hbx.a 4;have e0 := heap_cell hb8 0;have e1 := heap_cell hb8 1;have e2 := heap_cell hb8 2;have g0 := heap_cell hb9 0;have g1 := heap_cell hb9 1;have g2 := heap_cell hb9 2;clear hb8 hb9 hbx hl8 hl9;cases M with
  | none =>
    obtain ⟨hs, hr⟩ := hk;obtain rfl : ⟨#[]⟩ = tm := HTM.out;clear hs HSC HVL HBX;rcases hr with rfl | rfl | rfl
    · go_wp2
      go_ret2
      exact ⟨_, rfl, ngs_one (y := (2, none, -1)) HL8.out hf8, HB.out.trans ((alloc_far _ _).mono HB.out.size)⟩
    · go_wp2
      go_ret2
      exact ⟨_, rfl, ngs_one (y := (1, none, -1)) HL8.out hf8, HB.out.trans ((alloc_far _ _).mono HB.out.size)⟩
    · go_wp2
      go_ret2
      exact ⟨_, rfl, ngs_two (y := (2, none, 1)) (y' := (2, none, -1)) HL9.out hf9 HL8.out hf8, HB.out.trans ((alloc_far _ _).mono HB.out.size)⟩
  | some m =>
    obtain ⟨rfl, hr, -, -⟩ := hk;clear HSC HVL HBX;rcases hr with rfl | rfl
    · go_wp2
      go_ret2
      refine ⟨_, rfl, ?_, HB.out.trans ((alloc_far _ _).mono HB.out.size)⟩;rw [← HTM.out];exact ngs_one (y := (5, some m, 1)) HL9.out hf9
    · go_wp2
      go_ret2
      refine ⟨_, rfl, ?_, HB.out.trans ((alloc_far _ _).mono HB.out.size)⟩;rw [← HTM.out];exact ngs_one (y := (4, some m, 1)) HL9.out hf9
end
end Go.Proofs.YteoklapcifonaaaGreatDoor

/- Gcd of small integers. -/
import Derived.Test.YteoklapcifonaaaGreatDoorNNF
import Derived.Deep.DeepCutAuto
import Derived.Deep.LoopGhost
import Derived.Deep.AppendLies
namespace Go.Proofs.YteoklapcifonaaaGreatDoor
open Go.RowKit Nmx
theorem Cells.of {w : World} {R : Nat} {t : TypeId} {x y z : Value} (h : w.heap[R]? = some (.cells #[x, y, z] t (0, 0))) : w.cell? ⟨R, 0, none⟩ = some x ∧ w.cell? ⟨R, 1, none⟩ = some y ∧ w.cell? ⟨R, 2, none⟩ = some z ∧ w.frozen? ⟨R, 0, none⟩ = false ∧ w.frozen? ⟨R, 1, none⟩ = false ∧ w.frozen? ⟨R, 2, none⟩ = false :=
 ⟨aa h 0, aa h 1, aa h 2, ah h 0, ah h 1, ah h 2⟩
theorem new3 (w : World) (o o' o2 : Obj) : (((w.alloc o).alloc o').alloc o2).heap[w.heap.size]? = some o ∧ (((w.alloc o).alloc o').alloc o2).heap[w.heap.size + 1]? = some o' ∧ (((w.alloc o).alloc o').alloc o2).heap[w.heap.size + 2]? = some o2 := by
 refine ⟨?_, ?_, new_third w o o' o2⟩
 · rw [Below.heap_alloc _ _ _ (by simp; omega), Below.heap_alloc _ _ _ (by simp)];exact heap_alloc_new w o
 · rw [Below.heap_alloc _ _ _ (by simp)];exact bC w o o'
theorem aU {w : World} {R : Nat} {x y z a b c : Value} {t : TypeId} (h : w.heap[R]? = some (.cells #[a, b, c] t (0, 0))) : (((w.setCell ⟨R, 0, none⟩ x).setCell ⟨R, 1, none⟩ y).setCell ⟨R, 2, none⟩ z).heap[R]? = some (.cells #[x, y, z] t (0, 0)) := by
 have := av (av (av h 0 x) 1 y) 2 z
 simpa using this
theorem aj {w : World} {R g : Nat} (x y z : Value) (h : g ≠ R) : (((w.setCell ⟨R, 0, none⟩ x).setCell ⟨R, 1, none⟩ y).setCell ⟨R, 2, none⟩ z).heap[g]? = w.heap[g]? := by
 rw [Below.heap_setCell _ _ _ _ h, Below.heap_setCell _ _ _ _ h, Below.heap_setCell _ _ _ _ h]
end Go.Proofs.YteoklapcifonaaaGreatDoor
namespace Go.Proofs.YteoklapcifonaaaGreatDoor
open Go.RowKit Nmx
/-- the denominator as package exact keeps it -/
def denI (q : Rat) : Int := if q.den = 1 then 0 else q.den
/-- the value reads as the rational number q -/
def RV (w : World) (v : Value) (q : Rat) : Prop := ∃ s1 b1 a1 n1 c1 s2 b2 a2 n2 c2, v = .agg #[.int .i64 s1, .bool b1, .slice a1 n1 c1, .int .i64 s2, .bool b2, .slice a2 n2 c2] ∧ IV w (.agg #[.int .i64 s1, .bool b1, .slice a1 n1 c1]) q.num ∧ IV w (.agg #[.int .i64 s2, .bool b2, .slice a2 n2 c2]) (denI q)
theorem RV.far {w w' : World} {v : Value} {q : Rat} (h : RV w v q) (hb : Below w.heap.size w w') : RV w' v q :=
 let ⟨s1, b1, a1, n1, c1, s2, b2, a2, n2, c2, e, h1, h2⟩ := h
 ⟨s1, b1, a1, n1, c1, s2, b2, a2, n2, c2, e, h1.far hb, h2.far hb⟩
def GetsQ (q : Rat) (w : World) (e : Ending) (w' : World) : Prop := ∃ v, e = .returned v ∧ RV w' v q ∧ Below w.heap.size w w'
def set6 (w : World) (R : Nat) (x0 x1 x2 x3 x4 x5 : Value) : World := (((((w.setCell ⟨R, 0, none⟩ x0).setCell ⟨R, 1, none⟩ x1).setCell ⟨R, 2, none⟩ x2).setCell ⟨R, 3, none⟩ x3).setCell ⟨R, 4, none⟩ x4).setCell ⟨R, 5, none⟩ x5
theorem set6_heap {w : World} {R : Nat} {y0 y1 y2 y3 y4 y5 : Value} {t : TypeId} (h : w.heap[R]? = some (.cells #[y0, y1, y2, y3, y4, y5] t (0, 0))) (x0 x1 x2 x3 x4 x5 : Value) : (set6 w R x0 x1 x2 x3 x4 x5).heap[R]? = some (.cells #[x0, x1, x2, x3, x4, x5] t (0, 0)) := by
 have := av (av (av (av (av (av h 0 x0) 1 x1) 2 x2) 3 x3) 4 x4) 5 x5
 simpa [set6] using this
theorem set6_other {w : World} {R g : Nat} (h : g ≠ R) (x0 x1 x2 x3 x4 x5 : Value) : (set6 w R x0 x1 x2 x3 x4 x5).heap[g]? = w.heap[g]? := by
 unfold set6;rw [Below.heap_setCell _ _ _ _ h, Below.heap_setCell _ _ _ _ h, Below.heap_setCell _ _ _ _ h, Below.heap_setCell _ _ _ _ h, Below.heap_setCell _ _ _ _ h, Below.heap_setCell _ _ _ _ h]
theorem set6_below {B : Nat} {w0 w : World} {R : Nat} (h : Below B w0 w) (hR : B ≤ R) (x0 x1 x2 x3 x4 x5 : Value) : Below B w0 (set6 w R x0 x1 x2 x3 x4 x5) :=
 (((((h.setCell (show B ≤ (⟨R, 0, none⟩ : Addr).block from hR) x0).setCell (show B ≤ (⟨R, 1, none⟩ : Addr).block from hR) x1).setCell (show B ≤ (⟨R, 2, none⟩ : Addr).block from hR) x2).setCell (show B ≤ (⟨R, 3, none⟩ : Addr).block from hR) x3).setCell (show B ≤ (⟨R, 4, none⟩ : Addr).block from hR) x4).setCell (show B ≤ (⟨R, 5, none⟩ : Addr).block from hR) x5
theorem WS.heap_same {w w' : World} {ao : Option Addr} {g off cap : Nat} {l : List Nat} (h : WS w ao g off cap l) {R : Nat} {cs : Array Value} {t : TypeId} {fr : Nat × Nat} (hR : w.heap[R]? = some (.cells cs t fr)) (ht : t ≠ 145) (ho : ∀ k, k ≠ R → w'.heap[k]? = w.heap[k]?) : WS w' ao g off cap l :=
 h.same fun hc => ho g (fun e => by
  obtain ⟨cs', fr', hb⟩ := h.blk hc;rw [e, hR] at hb
  cases hb; exact ht rfl)
theorem IV.heap_same {w w' : World} {v : Value} {z : Int} (h : IV w v z) {R : Nat} {cs : Array Value} {t : TypeId} {fr : Nat × Nat} (hR : w.heap[R]? = some (.cells cs t fr)) (ht : t ≠ 145) (ho : ∀ k, k ≠ R → w'.heap[k]? = w.heap[k]?) : IV w' v z := by
 rcases h with h | ⟨b, g, off, cap, l, h1, h2, h3, h4⟩
 · exact .inl h
 · exact .inr ⟨b, g, off, cap, l, h1, h2.heap_same hR ht ho, h3, h4⟩
theorem end_rat {fn : Func} {t : Tmp} {a : Act} {w w2 : World} {R : Nat} {q : Rat} {s1 : Int} {b1 : Bool} {a1 : Option Addr} {n1 c1 : Nat} {s2 : Int} {b2 : Bool} {a2 : Option Addr} {n2 c2 : Nat} {x0 x1 x2 x3 x4 x5 : Value} (hres : fn.results = #[.cell t 85]) (hd : a.defers = []) (ht : a.tmps.getD t undef = .pointer (some ⟨R, 0, none⟩))
    (hR : w2.heap[R]? = some (.cells #[x0, x1, x2, x3, x4, x5] 85 (0, 0))) (hn : IV w2 (.agg #[.int .i64 s1, .bool b1, .slice a1 n1 c1]) q.num) (hdn : IV w2 (.agg #[.int .i64 s2, .bool b2, .slice a2 n2 c2]) (denI q)) (hb : Below w.heap.size w w2) (hRB : w.heap.size ≤ R) :
    bodyPost Tryz.prog fn (GetsQ q w) .ret a ((((((w2.setCell ⟨R, 0, none⟩ (.int .i64 s1)).setCell ⟨R, 1, none⟩ (.bool b1)).setCell ⟨R, 2, none⟩ (.slice a1 n1 c1)).setCell ⟨R, 3, none⟩ (.int .i64 s2)).setCell ⟨R, 4, none⟩ (.bool b2)).setCell ⟨R, 5, none⟩ (.slice a2 n2 c2)) := by
 show bodyPost Tryz.prog fn (GetsQ q w) .ret a (set6 w2 R (.int .i64 s1) (.bool b1) (.slice a1 n1 c1) (.int .i64 s2) (.bool b2) (.slice a2 n2 c2));have h3 := set6_heap hR (.int .i64 s1) (.bool b1) (.slice a1 n1 c1) (.int .i64 s2) (.bool b2) (.slice a2 n2 c2);have hbl := set6_below hb hRB (.int .i64 s1) (.bool b1) (.slice a1 n1 c1) (.int .i64 s2) (.bool b2) (.slice a2 n2 c2);have ho : ∀ k, k ≠ R → (set6 w2 R (.int .i64 s1) (.bool b1) (.slice a1 n1 c1) (.int .i64 s2) (.bool b2) (.slice a2 n2 c2)).heap[k]? = w2.heap[k]? := fun k hk => set6_other hk _ _ _ _ _ _
 have hn2 := hn.heap_same hR (by decide) ho;have hd2 := hdn.heap_same hR (by decide) ho;generalize set6 w2 R (.int .i64 s1) (.bool b1) (.slice a1 n1 c1) (.int .i64 s2) (.bool b2) (.slice a2 n2 c2) = w3 at *;have k0 := aa h3 0;have k1 := aa h3 1;have k2 := aa h3 2;have k3 := aa h3 3;have k4 := aa h3 4;have k5 := aa h3 5
 simp at k0 k1 k2 k3 k4 k5
 refine bodyPost_ret (v := .agg #[.int .i64 s1, .bool b1, .slice a1 n1 c1, .int .i64 s2, .bool b2, .slice a2 n2 c2]) ?_ hd ⟨_, rfl, ⟨_, _, _, _, _, _, _, _, _, _, rfl, hn2, hd2⟩, hbl⟩;have ht' : a.tmps[t]?.getD undef = .pointer (some ⟨R, 0, none⟩) := by simpa using ht
 simp [results, hres, go_sem, ht', k0, k1, k2, k3, k4, k5]
theorem divInt_parts {n d : Int} (hd : 0 < d) : (Rat.divInt n d).num = n / Int.gcd n d ∧ ((Rat.divInt n d).den : Int) = d / Int.gcd n d := by
 obtain ⟨k, rfl⟩ : ∃ k : Nat, d = k := ⟨d.toNat, by omega⟩
 rw [Rat.divInt_ofNat, ← Rat.normalize_eq_mkRat (by omega), Rat.normalize_eq];exact ⟨rfl, rfl⟩
end Go.Proofs.YteoklapcifonaaaGreatDoor
namespace Go.Proofs.YteoklapcifonaaaGreatDoor
open Go.RowKit Nmx
theorem decDigits_eq (n : Nat) : Lib.decDigits n = af n := by
 induction n using Nat.strongRecOn with
 | _ n ih =>
   by_cases h : n < 10
   · rw [bN h, Lib.decDigits, dif_pos h]; rfl
   · rw [decN_big h, Lib.decDigits, dif_neg h, ih (n / 10) (by omega)]; rfl
theorem itoa_eq (z : Int) : Lib.itoa z = bh z := by
 unfold Lib.itoa bh;rw [decDigits_eq, decDigits_eq]
 split
 · rfl
 · rename_i h; rw [show z.toNat = z.natAbs by omega]
theorem parseM_ok (M : Nat) (l : List UInt8) : ∀ acc, l.all isD = true → (acc + 1) * 10 ^ l.length ≤ 1000000000000000000 → (acc + 1) * 10 ^ l.length ≤ M + 1 → Lib.parseUintM M acc l = .ok (acc * 10 ^ l.length + dv l) := by
 induction l with
 | nil => intro acc _ _ _; simp [Lib.parseUintM, dv_nil]
 | cons c r ih =>
   intro acc h h1 h2;rw [List.all_cons, Bool.and_eq_true] at h;have hc := bL.1 h.1;rw [List.length_cons, Nat.pow_succ] at h1 h2;have hp : 0 < 10 ^ r.length := Nat.pow_pos (by omega);have e1 : (acc + 1) * (10 ^ r.length * 10) = (acc * 10 + 10) * 10 ^ r.length := by grind
   rw [e1] at h1 h2;have e2 : (acc * 10 + (c.toNat - 48) + 1) * 10 ^ r.length ≤ (acc * 10 + 10) * 10 ^ r.length := Nat.mul_le_mul_right _ (by omega);have e3 : (acc * 10 + 10) * 1 ≤ (acc * 10 + 10) * 10 ^ r.length := Nat.mul_le_mul_left _ hp;rw [Lib.parseUintM, if_pos hc, if_neg (by omega), if_neg (by omega), ih _ h.2 (by omega) (by omega), dv_cons, List.length_cons, Nat.pow_succ]
   congr 1
   grind
theorem parseU_ok (B : Nat) (l : List UInt8) (h : l.all isD = true) (h0 : l ≠ []) (h1 : l.length ≤ 18) (h2 : 10 ^ l.length ≤ 2 ^ B) : Lib.parseUintB B l = .ok (dv l) := by
 unfold Lib.parseUintB;rw [if_neg h0, parseM_ok _ _ _ h]
 · simp
 · have : 10 ^ l.length ≤ 10 ^ 18 := Nat.pow_le_pow_right (by omega) h1
   simpa using this
 · have : 0 < 2 ^ B := Nat.pow_pos (by omega)
   simp; omega
theorem parseI_ok (l : List UInt8) (h : l.all isD = true) (h0 : l ≠ []) (h1 : l.length ≤ 18) : Lib.parseIntB 64 l = .ok (dv l : Int) ∧ dv l < 1000000000000000000 := by
 have hp : 10 ^ l.length ≤ 10 ^ 18 := Nat.pow_le_pow_right (by omega) h1;have hu := parseU_ok 64 l h h0 h1 (by omega);have hl := dv_lt l h;refine ⟨?_, by omega⟩
 match l, h0 with
 | c :: r, _ =>
   rw [List.all_cons, Bool.and_eq_true] at h;have hc := bL.1 h.1;unfold Lib.parseIntB;simp only;rw [if_neg (by omega), hu];simp only;rw [if_neg (by omega), if_neg (by omega), if_neg (by omega)]
theorem ownsW_shape {w : World} {b : Nat} {v : Value} {l : List Nat} (h : w.ownsRow b 145 1 v l.length (bj l)) (hn : 0 < l.length) : ∃ g cap, v = .slice (some ⟨g, 0, none⟩) l.length cap ∧ b ≤ g ∧ l.length ≤ cap := by
 obtain ⟨_, h | ⟨g, cap, cur, hv, hg, _, hc, _⟩⟩ := h
 · omega
 · exact ⟨g, cap, hv, hg, hc⟩
theorem ownsW_len {w : World} {b : Nat} {v : Value} {l : List Nat} (h : w.ownsRow b 145 1 v l.length (bj l)) : ∃ a c, v = .slice a l.length c := by
 obtain ⟨_, h | ⟨g, cap, cur, hv, _⟩⟩ := h
 · rw [h.2, h.1]; exact ⟨none, 0, rfl⟩
 · exact ⟨_, _, hv⟩
theorem ownsW_set {w : World} {b g cap : Nat} {l : List Nat} (h : w.ownsRow b 145 1 (.slice (some ⟨g, 0, none⟩) l.length cap) l.length (bj l)) (i x : Nat) :
    (w.setCell ⟨g, i, none⟩ (.int .u32 (x : Int))).ownsRow b 145 1 (.slice (some ⟨g, 0, none⟩) l.length cap) (l.set i x).length (bj (l.set i x)) := by
 obtain ⟨hx, h | ⟨g', cap', cur, hv, hg, hh, hc, hm, hs, ht⟩⟩ := h
 · cases h.1
 · injection hv with e1 e2 e3;injection e1 with e1;injection e1 with e1;subst e1 e3;rw [List.length_set];refine ⟨by rw [u32s_len, List.length_set]; omega, .inr ⟨g, cap, cur.setIfInBounds i (.int .u32 (x : Int)), rfl, hg, av hh i _, hc, hm, by simpa using hs, ?_⟩⟩;rw [Array.toList_setIfInBounds, List.take_set, ht]
   simp [bj, List.map_set]
theorem ownsW_at {w : World} {b g cap : Nat} {l : List Nat} (h : w.ownsRow b 145 1 (.slice (some ⟨g, 0, none⟩) l.length cap) l.length (bj l)) (i : Nat) (hi : i < l.length) : w.cell? ⟨g, i, none⟩ = some (.int .u32 ((l.getD i 0 : Nat) : Int)) ∧ w.frozen? ⟨g, i, none⟩ = false := by
 refine ⟨by rw [h.cellAt i (by omega), u32s_at l i hi], ?_⟩;obtain ⟨hx, h | ⟨g', cap', cur, hv, hg, hh, _⟩⟩ := h
 · cases h.1
 · injection hv with e1;injection e1 with e1;injection e1 with e1;subst e1;exact ah hh i
theorem ownsW_ws {w : World} {b : Nat} {v : Value} {l : List Nat} (h : w.ownsRow b 145 1 v l.length (bj l)) (hw : Ws l) : WV w v l := by
 have h' := h;obtain ⟨hx, h | ⟨g, cap, cur, hv, hg, hh, hc, hm, _⟩⟩ := h
 · have hl : l = [] := List.length_eq_zero_iff.1 h.2;subst hl;rw [h.1];exact WV.nil w
 · subst hv;exact ⟨_, g, 0, cap, rfl, hc, by unfold maxLen at hm; omega, fun _ => rfl, (fun h => by cases h), fun _ => ⟨_, _, hh⟩, fun i hi => by rw [Nat.zero_add]; exact (ownsW_at h' i hi).1, hw⟩
end Go.Proofs.YteoklapcifonaaaGreatDoor

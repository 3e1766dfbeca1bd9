/- Normal at a comparison by RelLe of sort SortInt; the sanity check. -/
import Derived.Test.YtgfoljpjdmeooaaGreatDoorKLL
namespace Go.Proofs.YtgfoljpjdmeooaaGreatDoor
open Go.RowKit Nmx

theorem set5_heap {w : World} {R : Nat} {y0 y1 y2 y3 y4 : Value} {t : TypeId} (h : w.heap[R]? = some (.cells #[y0, y1, y2, y3, y4] t (0, 0))) (x0 x1 x2 x3 x4 : Value) : (((((w.setCell ⟨R, 0, none⟩ x0).setCell ⟨R, 1, none⟩ x1).setCell ⟨R, 2, none⟩ x2).setCell ⟨R, 3, none⟩ x3).setCell ⟨R, 4, none⟩ x4).heap[R]? = some (.cells #[x0, x1, x2, x3, x4] t (0, 0)) := by
  have := heap_set (heap_set (heap_set (heap_set (heap_set h 0 x0) 1 x1) 2 x2) 3 x3) 4 x4
  simpa using this
theorem set5_other {w : World} {R : Nat} (x0 x1 x2 x3 x4 : Value) {g : Nat} (hg : g ≠ R) : (((((w.setCell ⟨R, 0, none⟩ x0).setCell ⟨R, 1, none⟩ x1).setCell ⟨R, 2, none⟩ x2).setCell ⟨R, 3, none⟩ x3).setCell ⟨R, 4, none⟩ x4).heap[g]? = w.heap[g]? := by
  rw [Below.heap_setCell _ _ _ _ hg, Below.heap_setCell _ _ _ _ hg, Below.heap_setCell _ _ _ _ hg, Below.heap_setCell _ _ _ _ hg, Below.heap_setCell _ _ _ _ hg]
theorem set5_below {B : Nat} {W w : World} {R : Nat} (h : Below B W w) (hR : B ≤ R) (x0 x1 x2 x3 x4 : Value) : Below B W (((((w.setCell ⟨R, 0, none⟩ x0).setCell ⟨R, 1, none⟩ x1).setCell ⟨R, 2, none⟩ x2).setCell ⟨R, 3, none⟩ x3).setCell ⟨R, 4, none⟩ x4) :=
  ((((h.setCell (show B ≤ R from hR) _).setCell (show B ≤ R from hR) _).setCell (show B ≤ R from hR) _).setCell (show B ≤ R from hR) _).setCell (show B ≤ R from hR) _
theorem tx_int (z : Int) : TX (z : Rat) = ⟨(decI z).toArray⟩ := by
  show (⟨(textQ (z : Rat)).toArray⟩ : ByteArray) = _
  congr 2
  unfold textQ
  rw [Rat.num_intCast, Rat.den_intCast]
  simp
theorem intString_any {v : Value} {z : Int} {w : World} (h : IV w v z) (hE : Env w) : Calls Tryz.prog 99 #[v] w fun e w' => e = .returned (.string (TX (z : Rat))) ∧ Below w.heap.size w w' := by
  rw [tx_int]
  rcases h with ⟨rfl, hs⟩ | ⟨b, g, off, cap, l, rfl, hw, hl, rfl⟩
  · exact intString_small z w hE hs
  · exact intString_big b g off cap l w hE hw hl
/-- a constraint is handed back -/
theorem end_con {fn : Func} {t : Tmp} {a : Act} {w2 : World} {R : Nat} {r s : Int} {ao : Option Addr} {n c : Nat} {tx tm : ByteArray} {post : Ending → World → Prop} (hres : fn.results = #[.cell t 39]) (hd : a.defers = []) (ht : a.tmps.getD t undef = .pointer (some ⟨R, 0, none⟩))
    (hR : w2.heap[R]? = some (.cells #[.int .i64 r, .int .i64 s, .slice ao n c, .string tx, .string tm] 39 (0, 0))) (h : post (.returned (.agg #[.int .i64 r, .int .i64 s, .slice ao n c, .string tx, .string tm])) w2) :
    bodyPost Tryz.prog fn post .ret a w2 := by
  have k0 := heap_cell hR 0
  have k1 := heap_cell hR 1
  have k2 := heap_cell hR 2
  have k3 := heap_cell hR 3
  have k4 := heap_cell hR 4
  simp at k0 k1 k2 k3 k4
  refine bodyPost_ret (v := .agg #[.int .i64 r, .int .i64 s, .slice ao n c, .string tx, .string tm]) ?_ hd h
  have ht' : a.tmps[t]?.getD undef = .pointer (some ⟨R, 0, none⟩) := by simpa using ht
  simp [results, hres, go_sem, ht', k0, k1, k2, k3, k4]
theorem end_con2 {fn : Func} {t u : Tmp} {a : Act} {w2 : World} {R : Nat} {r s : Int} {ao : Option Addr} {n c : Nat} {tx tm : ByteArray} {post : Ending → World → Prop} (hres : fn.results = #[.cell t 39, .tmp u]) (hd : a.defers = []) (ht : a.tmps.getD t undef = .pointer (some ⟨R, 0, none⟩)) (hu : a.tmps.getD u undef = .int .i64 0)
    (hR : w2.heap[R]? = some (.cells #[.int .i64 r, .int .i64 s, .slice ao n c, .string tx, .string tm] 39 (0, 0))) (h : post (.returned (.tuple #[.agg #[.int .i64 r, .int .i64 s, .slice ao n c, .string tx, .string tm], .int .i64 0])) w2) :
    bodyPost Tryz.prog fn post .ret a w2 := by
  have k0 := heap_cell hR 0
  have k1 := heap_cell hR 1
  have k2 := heap_cell hR 2
  have k3 := heap_cell hR 3
  have k4 := heap_cell hR 4
  simp at k0 k1 k2 k3 k4
  refine bodyPost_ret (v := .tuple #[.agg #[.int .i64 r, .int .i64 s, .slice ao n c, .string tx, .string tm], .int .i64 0]) ?_ hd h
  have ht' : a.tmps[t]?.getD undef = .pointer (some ⟨R, 0, none⟩) := by simpa using ht
  have hu' : a.tmps[u]?.getD undef = .int .i64 0 := by simpa using hu
  simp [results, hres, go_sem, ht', hu', k0, k1, k2, k3, k4]
/-- the boxes of normalComparison -/
structure NB (w W : World) (T : Nat) (a1 : Option Addr) (n1 c1 : Nat) (t1 : ByteArray) (x0 x1 x2 x3 x4 x5 : Value) (k : Rat) : Prop where
  a : W.heap[w.heap.size]? = some (.cells #[.int .i64 1, .int .i64 2, .slice a1 n1 c1, .string t1, .string ⟨#[]⟩] 39 (0, 0))
  r : W.heap[w.heap.size + 1]? = some (.cells #[.int .i64 0, .int .i64 0, .slice none 0 0, .string ⟨#[]⟩, .string ⟨#[]⟩] 39 (0, 0))
  t : W.heap[T]? = some (.cells #[x0, x1, x2, x3, x4, x5] 72 (0, 0))
  kv : RV W (.agg #[x0, x1, x2, x3, x4, x5]) k
  lt : w.heap.size + 1 < T
  bel : Below w.heap.size w W
theorem NB.far {w W W' : World} {T : Nat} {a1 : Option Addr} {n1 c1 : Nat} {t1 : ByteArray} {x0 x1 x2 x3 x4 x5 : Value} {k : Rat} (h : NB w W T a1 n1 c1 t1 x0 x1 x2 x3 x4 x5 k) (hb : Below W.heap.size W W') : NB w W' T a1 n1 c1 t1 x0 x1 x2 x3 x4 x5 k :=
  ⟨(hb.block _ (lt_of_heap h.a)).trans h.a, (hb.block _ (lt_of_heap h.r)).trans h.r, (hb.block _ (lt_of_heap h.t)).trans h.t, h.kv.far hb, h.lt, h.bel.trans (hb.mono h.bel.size)⟩
theorem RV.but {w w' : World} {v : Value} {q : Rat} (h : RV w v q) {R : Nat} {cs : Array Value} {t : TypeId} {fr : Nat × Nat} (hR : w.heap[R]? = some (.cells cs t fr)) (ht : t ≠ 132) (ho : ∀ g, g ≠ R → w'.heap[g]? = w.heap[g]?) : RV w' v q :=
  h.kept (words_but hR ht fun g _ hg => ho g hg)
theorem NB.put {w W : World} {T : Nat} {a1 : Option Addr} {n1 c1 : Nat} {t1 : ByteArray} {x0 x1 x2 x3 x4 x5 : Value} {k : Rat} (h : NB w W T a1 n1 c1 t1 x0 x1 x2 x3 x4 x5 k) {y0 y1 y2 y3 y4 y5 : Value} {q : Rat} (hq : RV W (.agg #[y0, y1, y2, y3, y4, y5]) q) : NB w ((((((W.setCell ⟨T, 0, none⟩ y0).setCell ⟨T, 1, none⟩ y1).setCell ⟨T, 2, none⟩ y2).setCell ⟨T, 3, none⟩ y3).setCell ⟨T, 4, none⟩ y4).setCell ⟨T, 5, none⟩ y5) T a1 n1 c1 t1 y0 y1 y2 y3 y4 y5 q := by
  have h1 := h.lt
  have ho : ∀ g, g ≠ T → ((((((W.setCell ⟨T, 0, none⟩ y0).setCell ⟨T, 1, none⟩ y1).setCell ⟨T, 2, none⟩ y2).setCell ⟨T, 3, none⟩ y3).setCell ⟨T, 4, none⟩ y4).setCell ⟨T, 5, none⟩ y5).heap[g]? = W.heap[g]? := fun _ hg => set6_other hg _ _ _ _ _ _
  exact ⟨(ho _ (by omega)).trans h.a, (ho _ (by omega)).trans h.r, set6_heap h.t _ _ _ _ _ _, hq.but h.t (by decide) ho, h1, set6_below h.bel (by omega) _ _ _ _ _ _⟩
theorem LV.const {w : World} {s : Int} {ao : Option Addr} {n c : Nat} {tx : ByteArray} {d e : Nat} {p q : Rat} {rs : List (List UInt8 × Rat)} (h : LV w (.agg #[.int .i64 s, .slice ao n c, .string tx]) s d p rs) (hq : DS e q) (hd : d ≤ e) : LV w (.agg #[.int .i64 s, .slice ao n c, .string (TX q)]) s e q rs := by
  obtain ⟨ao', g, off, cap, he, h1, h2, h3, h4⟩ := h
  injection he with he
  injection he with he
  injection he with _ he
  injection he with he1 he
  injection he1 with e1 e2 e3
  subst e1 e2 e3
  exact ⟨_, g, off, _, rfl, h1, h2, h3.mono hd, hq⟩
def GetsCE (d : Nat) (c : Rat) (f : List UInt8 → Rat) (w : World) (e : Ending) (w' : World) : Prop := ∃ rs ao n cp tx, e = .returned (.tuple #[.agg #[.int .i64 1, .int .i64 2, .slice ao n cp, .string tx, .string ⟨#[]⟩], .int .i64 0]) ∧ LV w' (.agg #[.int .i64 2, .slice ao n cp, .string tx]) 2 d c rs ∧ (∀ n, cof rs n = f n) ∧ Below w.heap.size w w'
theorem ds_ce {d : Nat} {p : Rat} (h : DS d p) : DS (d + 1) ((ceI p : Int) : Rat) := by
  unfold ceI
  have := h.neg.fl
  have e : ((-flI (-p) : Int) : Rat) = -((flI (-p) : Int) : Rat) := Rat.intCast_neg _
  rw [e]
  exact this.neg
end Go.Proofs.YtgfoljpjdmeooaaGreatDoor

/- Quotients of small integers; rational numbers of package exact in memory. -/
import Derived.Test.YtgehimcngljmnaaGreatDoorR
namespace Go.Proofs.YtgehimcngljmnaaGreatDoor
open Go.RowKit Nmx

/-- the denominator as package exact keeps it -/
def denI (q : Rat) : Int := if q.den = 1 then 0 else q.den
/-- the value reads as the rational number q -/
def RV (w : World) (v : Value) (q : Rat) : Prop := ∃ s1 b1 a1 n1 c1 s2 b2 a2 n2 c2, v = .agg #[.int .i64 s1, .bool b1, .slice a1 n1 c1, .int .i64 s2, .bool b2, .slice a2 n2 c2] ∧ IV w (.agg #[.int .i64 s1, .bool b1, .slice a1 n1 c1]) q.num ∧ IV w (.agg #[.int .i64 s2, .bool b2, .slice a2 n2 c2]) (denI q)
theorem RV.far {w w' : World} {v : Value} {q : Rat} (h : RV w v q) (hb : Below w.heap.size w w') : RV w' v q :=
  let ⟨s1, b1, a1, n1, c1, s2, b2, a2, n2, c2, e, h1, h2⟩ := h
  ⟨s1, b1, a1, n1, c1, s2, b2, a2, n2, c2, e, h1.far hb, h2.far hb⟩
def GetsQ (q : Rat) (w : World) (e : Ending) (w' : World) : Prop := ∃ v, e = .returned v ∧ RV w' v q ∧ Below w.heap.size w w'
def set6 (w : World) (R : Nat) (x0 x1 x2 x3 x4 x5 : Value) : World := (((((w.setCell ⟨R, 0, none⟩ x0).setCell ⟨R, 1, none⟩ x1).setCell ⟨R, 2, none⟩ x2).setCell ⟨R, 3, none⟩ x3).setCell ⟨R, 4, none⟩ x4).setCell ⟨R, 5, none⟩ x5
theorem set6_heap {w : World} {R : Nat} {y0 y1 y2 y3 y4 y5 : Value} {t : TypeId} (h : w.heap[R]? = some (.cells #[y0, y1, y2, y3, y4, y5] t (0, 0))) (x0 x1 x2 x3 x4 x5 : Value) : (set6 w R x0 x1 x2 x3 x4 x5).heap[R]? = some (.cells #[x0, x1, x2, x3, x4, x5] t (0, 0)) := by
  have := heap_set (heap_set (heap_set (heap_set (heap_set (heap_set h 0 x0) 1 x1) 2 x2) 3 x3) 4 x4) 5 x5
  simpa [set6] using this
theorem set6_other {w : World} {R g : Nat} (h : g ≠ R) (x0 x1 x2 x3 x4 x5 : Value) : (set6 w R x0 x1 x2 x3 x4 x5).heap[g]? = w.heap[g]? := by
  unfold set6
  rw [Below.heap_setCell _ _ _ _ h, Below.heap_setCell _ _ _ _ h, Below.heap_setCell _ _ _ _ h, Below.heap_setCell _ _ _ _ h, Below.heap_setCell _ _ _ _ h, Below.heap_setCell _ _ _ _ h]
theorem set6_below {B : Nat} {w0 w : World} {R : Nat} (h : Below B w0 w) (hR : B ≤ R) (x0 x1 x2 x3 x4 x5 : Value) : Below B w0 (set6 w R x0 x1 x2 x3 x4 x5) :=
  (((((h.setCell (show B ≤ (⟨R, 0, none⟩ : Addr).block from hR) x0).setCell (show B ≤ (⟨R, 1, none⟩ : Addr).block from hR) x1).setCell (show B ≤ (⟨R, 2, none⟩ : Addr).block from hR) x2).setCell (show B ≤ (⟨R, 3, none⟩ : Addr).block from hR) x3).setCell (show B ≤ (⟨R, 4, none⟩ : Addr).block from hR) x4).setCell (show B ≤ (⟨R, 5, none⟩ : Addr).block from hR) x5
theorem WS.heap_same {w w' : World} {ao : Option Addr} {g off cap : Nat} {l : List Nat} (h : WS w ao g off cap l) {R : Nat} {cs : Array Value} {t : TypeId} {fr : Nat × Nat} (hR : w.heap[R]? = some (.cells cs t fr)) (ht : t ≠ 109) (ho : ∀ k, k ≠ R → w'.heap[k]? = w.heap[k]?) : WS w' ao g off cap l :=
  h.same fun hc => ho g (fun e => by
    obtain ⟨cs', fr', hb⟩ := h.blk hc
    rw [e, hR] at hb
    cases hb; exact ht rfl)
theorem IV.heap_same {w w' : World} {v : Value} {z : Int} (h : IV w v z) {R : Nat} {cs : Array Value} {t : TypeId} {fr : Nat × Nat} (hR : w.heap[R]? = some (.cells cs t fr)) (ht : t ≠ 109) (ho : ∀ k, k ≠ R → w'.heap[k]? = w.heap[k]?) : IV w' v z := by
  rcases h with h | ⟨b, g, off, cap, l, h1, h2, h3, h4⟩
  · exact .inl h
  · exact .inr ⟨b, g, off, cap, l, h1, h2.heap_same hR ht ho, h3, h4⟩
theorem end_rat {fn : Func} {t : Tmp} {a : Act} {w w2 : World} {R : Nat} {q : Rat} {s1 : Int} {b1 : Bool} {a1 : Option Addr} {n1 c1 : Nat} {s2 : Int} {b2 : Bool} {a2 : Option Addr} {n2 c2 : Nat} {x0 x1 x2 x3 x4 x5 : Value} (hres : fn.results = #[.cell t 63]) (hd : a.defers = []) (ht : a.tmps.getD t undef = .pointer (some ⟨R, 0, none⟩))
    (hR : w2.heap[R]? = some (.cells #[x0, x1, x2, x3, x4, x5] 63 (0, 0))) (hn : IV w2 (.agg #[.int .i64 s1, .bool b1, .slice a1 n1 c1]) q.num) (hdn : IV w2 (.agg #[.int .i64 s2, .bool b2, .slice a2 n2 c2]) (denI q)) (hb : Below w.heap.size w w2) (hRB : w.heap.size ≤ R) :
    bodyPost Tryz.prog fn (GetsQ q w) .ret a ((((((w2.setCell ⟨R, 0, none⟩ (.int .i64 s1)).setCell ⟨R, 1, none⟩ (.bool b1)).setCell ⟨R, 2, none⟩ (.slice a1 n1 c1)).setCell ⟨R, 3, none⟩ (.int .i64 s2)).setCell ⟨R, 4, none⟩ (.bool b2)).setCell ⟨R, 5, none⟩ (.slice a2 n2 c2)) := by
  show bodyPost Tryz.prog fn (GetsQ q w) .ret a (set6 w2 R (.int .i64 s1) (.bool b1) (.slice a1 n1 c1) (.int .i64 s2) (.bool b2) (.slice a2 n2 c2))
  have h3 := set6_heap hR (.int .i64 s1) (.bool b1) (.slice a1 n1 c1) (.int .i64 s2) (.bool b2) (.slice a2 n2 c2)
  have hbl := set6_below hb hRB (.int .i64 s1) (.bool b1) (.slice a1 n1 c1) (.int .i64 s2) (.bool b2) (.slice a2 n2 c2)
  have ho : ∀ k, k ≠ R → (set6 w2 R (.int .i64 s1) (.bool b1) (.slice a1 n1 c1) (.int .i64 s2) (.bool b2) (.slice a2 n2 c2)).heap[k]? = w2.heap[k]? := fun k hk => set6_other hk _ _ _ _ _ _
  have hn2 := hn.heap_same hR (by decide) ho
  have hd2 := hdn.heap_same hR (by decide) ho
  generalize set6 w2 R (.int .i64 s1) (.bool b1) (.slice a1 n1 c1) (.int .i64 s2) (.bool b2) (.slice a2 n2 c2) = w3 at *
  have k0 := heap_cell h3 0
  have k1 := heap_cell h3 1
  have k2 := heap_cell h3 2
  have k3 := heap_cell h3 3
  have k4 := heap_cell h3 4
  have k5 := heap_cell h3 5
  simp at k0 k1 k2 k3 k4 k5
  refine bodyPost_ret (v := .agg #[.int .i64 s1, .bool b1, .slice a1 n1 c1, .int .i64 s2, .bool b2, .slice a2 n2 c2]) ?_ hd ⟨_, rfl, ⟨_, _, _, _, _, _, _, _, _, _, rfl, hn2, hd2⟩, hbl⟩
  have ht' : a.tmps[t]?.getD undef = .pointer (some ⟨R, 0, none⟩) := by simpa using ht
  simp [results, hres, go_sem, ht', k0, k1, k2, k3, k4, k5]
theorem divInt_parts {n d : Int} (hd : 0 < d) : (Rat.divInt n d).num = n / Int.gcd n d ∧ ((Rat.divInt n d).den : Int) = d / Int.gcd n d := by
  obtain ⟨k, rfl⟩ : ∃ k : Nat, d = k := ⟨d.toNat, by omega⟩
  rw [Rat.divInt_ofNat, ← Rat.normalize_eq_mkRat (by omega), Rat.normalize_eq]
  exact ⟨rfl, rfl⟩

/-- two integers and a result, in blocks B, B + 1, B + 2 -/
structure QS (w wx : World) (x y : Int) : Prop where
  ha : wx.heap[w.heap.size]? = some (.cells #[.int .i64 x, .bool false, .slice none 0 0] 58 (0, 0))
  hb : wx.heap[w.heap.size + 1]? = some (.cells #[.int .i64 y, .bool false, .slice none 0 0] 58 (0, 0))
  hr : wx.heap[w.heap.size + 2]? = some (.cells #[.int .i64 0, .bool false, .slice none 0 0, .int .i64 0, .bool false, .slice none 0 0] 63 (0, 0))
  bel : Below w.heap.size w wx
theorem QS.far {w wx w1 : World} {x y : Int} (h : QS w wx x y) (hb : Below wx.heap.size wx w1) : QS w w1 x y :=
  ⟨(hb.block _ (lt_of_heap h.ha)).trans h.ha, (hb.block _ (lt_of_heap h.hb)).trans h.hb, (hb.block _ (lt_of_heap h.hr)).trans h.hr, h.bel.trans (hb.mono h.bel.size)⟩
theorem QS.new (w : World) (x y : Int) (o2 : Obj) (h2 : o2 = .cells #[.int .i64 0, .bool false, .slice none 0 0, .int .i64 0, .bool false, .slice none 0 0] 63) :
    QS w (((w.alloc (.cells #[.int .i64 x, .bool false, .slice none 0 0] 58)).alloc (.cells #[.int .i64 y, .bool false, .slice none 0 0] 58)).alloc o2) x y := by
  subst h2
  obtain ⟨h1, h2, h3⟩ := new3 w (.cells #[.int .i64 x, .bool false, .slice none 0 0] 58) (.cells #[.int .i64 y, .bool false, .slice none 0 0] 58) (.cells #[.int .i64 0, .bool false, .slice none 0 0, .int .i64 0, .bool false, .slice none 0 0] 63)
  exact ⟨h1, h2, h3, below3 w _ _ _⟩
theorem QS.cells {w wx : World} {x y : Int} (h : QS w wx x y) : (wx.cell? ⟨w.heap.size, 0, none⟩ = some (.int .i64 x) ∧ wx.cell? ⟨w.heap.size, 1, none⟩ = some (.bool false) ∧ wx.cell? ⟨w.heap.size, 2, none⟩ = some (.slice none 0 0) ∧ wx.cell? ⟨w.heap.size + 1, 0, none⟩ = some (.int .i64 y) ∧ wx.cell? ⟨w.heap.size + 1, 1, none⟩ = some (.bool false) ∧ wx.cell? ⟨w.heap.size + 1, 2, none⟩ = some (.slice none 0 0)) ∧ (∀ i, wx.frozen? ⟨w.heap.size, i, none⟩ = false) ∧ (∀ i, wx.frozen? ⟨w.heap.size + 1, i, none⟩ = false) :=
  ⟨⟨heap_cell h.ha 0, heap_cell h.ha 1, heap_cell h.ha 2, heap_cell h.hb 0, heap_cell h.hb 1, heap_cell h.hb 2⟩, fun i => heap_fz h.ha i, fun i => heap_fz h.hb i⟩
theorem QS.res {w wx : World} {x y : Int} (h : QS w wx x y) : (wx.cell? ⟨w.heap.size + 1 + 1, 0, none⟩ = some (.int .i64 0) ∧ wx.cell? ⟨w.heap.size + 1 + 1, 1, none⟩ = some (.bool false) ∧ wx.cell? ⟨w.heap.size + 1 + 1, 2, none⟩ = some (.slice none 0 0) ∧ wx.cell? ⟨w.heap.size + 1 + 1, 3, none⟩ = some (.int .i64 0) ∧ wx.cell? ⟨w.heap.size + 1 + 1, 4, none⟩ = some (.bool false) ∧ wx.cell? ⟨w.heap.size + 1 + 1, 5, none⟩ = some (.slice none 0 0)) ∧ (∀ i, wx.frozen? ⟨w.heap.size + 1 + 1, i, none⟩ = false) :=
  ⟨⟨heap_cell h.hr 0, heap_cell h.hr 1, heap_cell h.hr 2, heap_cell h.hr 3, heap_cell h.hr 4, heap_cell h.hr 5⟩, fun i => heap_fz h.hr i⟩

section
set_option maxRecDepth 100000
set_option maxHeartbeats 4000000
theorem quotient_one {n : Int} (w : World) (hn : Small n) :
    Calls Tryz.prog 66 #[.agg #[.int .i64 n, .bool false, .slice none 0 0], .agg #[.int .i64 1, .bool false, .slice none 0 0]] w (GetsQ (n : Rat) w) := by
  have hsg := fun W => sign_any _ _ W (small_iv W (show Small 1 by unfold Small; omega))
  have hio := fun W => isOne_any _ _ W (small_iv W (show Small 1 by unfold Small; omega))
  unfold smallV at hsg hio
  have h1 : sgnI 1 = 1 := rfl
  rw [h1] at hsg
  have hq := QS.new w n 1 _ rfl
  have HQ := Lib.hid hq
  clear h1 hq
  go_enter Tryz.func66, Tryz.ntmps66
  go_wp2_with fail
  refine (hsg _).mono ?_
  rintro e w1 ⟨rfl, hb1⟩
  have HQ1 := Lib.hid (HQ.out.far hb1)
  obtain ⟨⟨a0, a1, a2, b0, b1, b2⟩, fa, fb⟩ := HQ1.out.cells
  clear hb1 HQ hsg
  go_wp2_with fail
  refine (hio _).mono ?_
  rintro e w2 ⟨rfl, hb2⟩
  have HQ2 := Lib.hid (HQ1.out.far hb2)
  clear a0 a1 a2 b0 b1 b2 fa fb hb2 HQ1 hio
  obtain ⟨⟨a0, a1, a2, b0, b1, b2⟩, fa, fb⟩ := HQ2.out.cells
  obtain ⟨⟨r0, r1, r2, r3, r4, r5⟩, fr⟩ := HQ2.out.res
  go_wp2
  exact end_rat Tryz.results66 rfl rfl HQ2.out.hr (small_iv _ hn) (small_iv _ (by unfold Small; omega)) HQ2.out.bel (by omega)
/-- and the common divisor in a block G -/
structure QG (w wx : World) (x y : Int) (G : Nat) (g : Int) : Prop where
  qs : QS w wx x y
  hg : wx.heap[G]? = some (.cells #[.int .i64 g, .bool false, .slice none 0 0] 58 (0, 0))
  far : w.heap.size + 2 < G
theorem QG.far' {w wx w1 : World} {x y g : Int} {G : Nat} (h : QG w wx x y G g) (hb : Below wx.heap.size wx w1) : QG w w1 x y G g := ⟨h.qs.far hb, (hb.block _ (lt_of_heap h.hg)).trans h.hg, h.far⟩
theorem QG.new {w wx : World} {x y g : Int} (h : QS w wx x y) : QG w (wx.alloc (.cells #[.int .i64 g, .bool false, .slice none 0 0] 58)) x y wx.heap.size g :=
  ⟨h.far ((Below.refl _ _).alloc (Nat.le_refl _) _), heap_alloc_new wx _, lt_of_heap h.hr⟩
theorem QG.gcells {w wx : World} {x y g : Int} {G : Nat} (h : QG w wx x y G g) : wx.cell? ⟨G, 0, none⟩ = some (.int .i64 g) ∧ wx.cell? ⟨G, 1, none⟩ = some (.bool false) ∧ wx.cell? ⟨G, 2, none⟩ = some (.slice none 0 0) :=
  ⟨heap_cell h.hg 0, heap_cell h.hg 1, heap_cell h.hg 2⟩
theorem QG.setA {w wx : World} {x y g : Int} {G : Nat} (h : QG w wx x y G g) (x' : Int) : QG w (((wx.setCell ⟨w.heap.size, 0, none⟩ (.int .i64 x')).setCell ⟨w.heap.size, 1, none⟩ (.bool false)).setCell ⟨w.heap.size, 2, none⟩ (.slice none 0 0)) x' y G g := by
  have hf := h.far
  refine ⟨⟨set3_heap h.qs.ha, ?_, ?_, ?_⟩, ?_, hf⟩
  · rw [set3_other _ _ _ (by omega)]; exact h.qs.hb
  · rw [set3_other _ _ _ (by omega)]; exact h.qs.hr
  · exact ((h.qs.bel.setCell (show w.heap.size ≤ (⟨w.heap.size, 0, none⟩ : Addr).block from Nat.le_refl _) _).setCell (show w.heap.size ≤ (⟨w.heap.size, 1, none⟩ : Addr).block from Nat.le_refl _) _).setCell (show w.heap.size ≤ (⟨w.heap.size, 2, none⟩ : Addr).block from Nat.le_refl _) _
  · rw [set3_other _ _ _ (by omega)]; exact h.hg
theorem QG.setB {w wx : World} {x y g : Int} {G : Nat} (h : QG w wx x y G g) (y' : Int) : QG w (((wx.setCell ⟨w.heap.size + 1, 0, none⟩ (.int .i64 y')).setCell ⟨w.heap.size + 1, 1, none⟩ (.bool false)).setCell ⟨w.heap.size + 1, 2, none⟩ (.slice none 0 0)) x y' G g := by
  have hf := h.far
  refine ⟨⟨?_, set3_heap h.qs.hb, ?_, ?_⟩, ?_, hf⟩
  · rw [set3_other _ _ _ (by omega)]; exact h.qs.ha
  · rw [set3_other _ _ _ (by omega)]; exact h.qs.hr
  · exact ((h.qs.bel.setCell (show w.heap.size ≤ (⟨w.heap.size + 1, 0, none⟩ : Addr).block from Nat.le_succ _) _).setCell (show w.heap.size ≤ (⟨w.heap.size + 1, 1, none⟩ : Addr).block from Nat.le_succ _) _).setCell (show w.heap.size ≤ (⟨w.heap.size + 1, 2, none⟩ : Addr).block from Nat.le_succ _) _
  · rw [set3_other _ _ _ (by omega)]; exact h.hg

theorem quotient_pos {n d : Int} (w : World) (hn : Small n) (hd : Small d) (h1 : 1 < d) :
    Calls Tryz.prog 66 #[.agg #[.int .i64 n, .bool false, .slice none 0 0], .agg #[.int .i64 d, .bool false, .slice none 0 0]] w (GetsQ (Rat.divInt n d) w) := by
  have hsg := fun W => sign_any _ _ W (small_iv W hd)
  have hio := fun (z : Int) (hz : Small z) W => isOne_any _ _ W (small_iv W hz)
  have hgc := fun W => gcd_ss W hn hd
  have hg1 : 1 ≤ (Int.gcd n d : Int) := by
    have : 0 < Int.gcd n d := Int.gcd_pos_iff.2 (.inr (by omega))
    omega
  have hgd : (Int.gcd n d : Int) ≤ d := Int.le_of_dvd (by omega) (Int.gcd_dvd_right ..)
  have hgs : Small (Int.gcd n d : Int) := by unfold Small at *; omega
  obtain ⟨p1, p2⟩ := divInt_parts (n := n) (d := d) (by omega)
  have hns : Small (n / (Int.gcd n d : Int)) := ediv_small hn
  have hds : Small (d / (Int.gcd n d : Int)) := ediv_small hd
  have hqn := fun W => (quoRem_ss W hn hgs (by omega)).mono fun e w' ⟨v1, v2, he, h1, h2, hb⟩ => (⟨v2, by rw [he, iv_small h1 hns], hb⟩ : ∃ v2, e = Ending.returned (.tuple #[smallV (n / (Int.gcd n d : Int)), v2]) ∧ Below W.heap.size W w')
  have hqd := fun W => (quoRem_ss W hd hgs (by omega)).mono fun e w' ⟨v1, v2, he, h1, h2, hb⟩ => (⟨v2, by rw [he, iv_small h1 hds], hb⟩ : ∃ v2, e = Ending.returned (.tuple #[smallV (d / (Int.gcd n d : Int)), v2]) ∧ Below W.heap.size W w')
  have hd0 : 0 < d / (Int.gcd n d : Int) := by rw [← p2]; have := (Rat.divInt n d).den_nz; omega
  have HP : Hid ((Rat.divInt n d).num = n / (Int.gcd n d : Int) ∧ ((Rat.divInt n d).den : Int) = d / (Int.gcd n d : Int)) := Lib.hid ⟨p1, p2⟩
  have hdv : (Int.gcd n d : Int) = 1 → n / (Int.gcd n d : Int) = n ∧ d / (Int.gcd n d : Int) = d := fun e => by rw [e, Int.ediv_one, Int.ediv_one]; exact ⟨rfl, rfl⟩
  have HDV := Lib.hid hdv
  unfold smallV at hsg hio hqn hqd
  have h2 : sgnI d = 1 := by unfold sgnI; rw [if_neg (by omega), if_pos (by omega)]
  rw [h2] at hsg
  have h3 : decide (d = 1) = false := decide_eq_false (by omega)
  have hiod := hio d hd
  rw [h3] at hiod
  have hiog := hio _ hgs
  have hioq := hio _ hds
  have hq := QS.new w n d _ rfl
  have HQ := Lib.hid hq
  clear h2 hq p1 p2 hdv hio h3
  generalize (Int.gcd n d : Int) = g at *
  generalize n / g = n' at *
  generalize d / g = d' at *
  generalize Rat.divInt n d = q at *
  go_enter Tryz.func66, Tryz.ntmps66
  go_wp2_with fail
  refine (hsg _).mono ?_
  rintro e w1 ⟨rfl, hb1⟩
  have HQ1 := Lib.hid (HQ.out.far hb1)
  obtain ⟨⟨a0, a1, a2, b0, b1, b2⟩, fa, fb⟩ := HQ1.out.cells
  clear hb1 HQ hsg
  go_wp2_with fail
  refine (hiod _).mono ?_
  rintro e w2 ⟨rfl, hb2⟩
  have HQ2 := Lib.hid (HQ1.out.far hb2)
  clear a0 a1 a2 b0 b1 b2 fa fb hb2 HQ1 hiod
  obtain ⟨⟨a0, a1, a2, b0, b1, b2⟩, fa, fb⟩ := HQ2.out.cells
  go_wp2_with fail
  refine (hgc _).mono ?_
  rintro e w3 ⟨v3, rfl, hv3, hb3⟩
  have hv3 := iv_small hv3 hgs
  unfold smallV at hv3
  subst hv3
  have HQ3 := Lib.hid (QG.new (g := g) (HQ2.out.far hb3))
  clear a0 a1 a2 b0 b1 b2 fa fb hb3 HQ2 hgc
  go_wp2_with fail
  refine (hiog _).mono ?_
  rintro e w4 ⟨rfl, hb4⟩
  have HQ4 := Lib.hid (HQ3.out.far' hb4)
  clear hb4 HQ3 hiog
  generalize w3.heap.size = G at *
  obtain ⟨⟨a0, a1, a2, b0, b1, b2⟩, fa, fb⟩ := HQ4.out.qs.cells
  obtain ⟨g0, g1, g2⟩ := HQ4.out.gcells
  by_cases hg : g = 1
  · have hgb : decide (g = 1) = true := by simpa using hg
    obtain ⟨e1, e2⟩ := HDV.out hg
    subst e1 e2
    clear hqn hqd
    go_wp2_with fail
    refine (hioq _).mono ?_
    rintro e w5 ⟨rfl, hb5⟩
    have HQ5 := Lib.hid (HQ4.out.far' hb5)
    clear a0 a1 a2 b0 b1 b2 fa fb hb5 HQ4 g0 g1 g2
    obtain ⟨⟨a0, a1, a2, b0, b1, b2⟩, fa, fb⟩ := HQ5.out.qs.cells
    obtain ⟨⟨r0, r1, r2, r3, r4, r5⟩, fr⟩ := HQ5.out.qs.res
    have hdd : decide (d' = 1) = false := decide_eq_false (by omega)
    have HDE : Hid (denI q = d') := Lib.hid (by have := HP.out.2; unfold denI; rw [if_neg (by omega)]; exact this)
    have HN : Hid (q.num = n') := Lib.hid HP.out.1
    go_wp2
    exact end_rat Tryz.results66 rfl rfl HQ5.out.qs.hr (by rw [HN.out]; exact small_iv _ hns) (by rw [HDE.out]; exact small_iv _ hds) HQ5.out.qs.bel (by omega)
  · have hgb : decide (g = 1) = false := by simpa using hg
    go_wp2_with fail
    refine (hqn _).mono ?_
    rintro e w5 ⟨v6, rfl, hb5⟩
    have HQ5 := Lib.hid (HQ4.out.far' hb5)
    clear a0 a1 a2 b0 b1 b2 fa fb hb5 HQ4 g0 g1 g2 hqn
    obtain ⟨⟨a0, a1, a2, b0, b1, b2⟩, fa, fb⟩ := HQ5.out.qs.cells
    obtain ⟨g0, g1, g2⟩ := HQ5.out.gcells
    have hne1 : w.heap.size ≠ G := by have := HQ5.out.far; omega
    go_wp2_with fail
    have HQ6 := Lib.hid (HQ5.out.setA n')
    clear a0 a1 a2 b0 b1 b2 fa fb HQ5 g0 g1 g2
    generalize ((w5.setCell ⟨w.heap.size, 0, none⟩ (.int .i64 n')).setCell ⟨w.heap.size, 1, none⟩ (.bool false)).setCell ⟨w.heap.size, 2, none⟩ (.slice none 0 0) = w6 at *
    refine (hqd _).mono ?_
    rintro e w7 ⟨v7, rfl, hb7⟩
    have HQ7 := Lib.hid (HQ6.out.far' hb7)
    clear hb7 HQ6 hqd
    obtain ⟨⟨a0, a1, a2, b0, b1, b2⟩, fa, fb⟩ := HQ7.out.qs.cells
    go_wp2_with fail
    have HQ8 := Lib.hid (HQ7.out.setB d')
    clear a0 a1 a2 b0 b1 b2 fa fb HQ7
    generalize ((w7.setCell ⟨w.heap.size + 1, 0, none⟩ (.int .i64 d')).setCell ⟨w.heap.size + 1, 1, none⟩ (.bool false)).setCell ⟨w.heap.size + 1, 2, none⟩ (.slice none 0 0) = w8 at *
    refine (hioq _).mono ?_
    rintro e w9 ⟨rfl, hb9⟩
    have HQ9 := Lib.hid (HQ8.out.far' hb9)
    clear hb9 HQ8 hioq
    obtain ⟨⟨a0, a1, a2, b0, b1, b2⟩, fa, fb⟩ := HQ9.out.qs.cells
    obtain ⟨⟨r0, r1, r2, r3, r4, r5⟩, fr⟩ := HQ9.out.qs.res
    have HN : Hid (q.num = n') := Lib.hid HP.out.1
    by_cases h1d : d' = 1
    · have hdd : decide (d' = 1) = true := decide_eq_true h1d
      have HDE : Hid (denI q = 0) := Lib.hid (by have := HP.out.2; unfold denI; rw [if_pos (by omega)])
      clear h1d
      go_wp2
      exact end_rat Tryz.results66 rfl rfl HQ9.out.qs.hr (by rw [HN.out]; exact small_iv _ hns) (by rw [HDE.out]; exact small_iv _ (by unfold Small; omega)) HQ9.out.qs.bel (by omega)
    · have hdd : decide (d' = 1) = false := decide_eq_false h1d
      have HDE : Hid (denI q = d') := Lib.hid (by have := HP.out.2; unfold denI; rw [if_neg (by omega)]; exact this)
      clear h1d
      go_wp2
      exact end_rat Tryz.results66 rfl rfl HQ9.out.qs.hr (by rw [HN.out]; exact small_iv _ hns) (by rw [HDE.out]; exact small_iv _ hds) HQ9.out.qs.bel (by omega)
end
end Go.Proofs.YtgehimcngljmnaaGreatDoor

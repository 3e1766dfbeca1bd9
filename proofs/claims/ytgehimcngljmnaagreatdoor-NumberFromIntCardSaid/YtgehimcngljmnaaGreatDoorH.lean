/- Integers of package exact in memory; FromInt64, IsSmall, Sign, IsZero, IsOne, Neg, Abs. -/
import Derived.Test.YtgehimcngljmnaaGreatDoorG
namespace Go.Proofs.YtgehimcngljmnaaGreatDoor
open Go.RowKit Nmx

section
set_option maxRecDepth 100000
/-- a world in which the integer in block R has turned -/
def set3 (w : World) (R : Nat) (x y z : Value) : World := ((w.setCell ⟨R, 0, none⟩ x).setCell ⟨R, 1, none⟩ y).setCell ⟨R, 2, none⟩ z
end
def smallV (z : Int) : Value := .agg #[.int .i64 z, .bool false, .slice none 0 0]
def bigV (b : Bool) (ao : Option Addr) (n cap : Nat) : Value := .agg #[.int .i64 0, .bool b, .slice ao n cap]
/-- small enough for one machine word, as package exact has it -/
def Small (z : Int) : Prop := -9223372036854775807 ≤ z ∧ z ≤ 9223372036854775807
/-- rows of words that are too big for that -/
def Big (l : List Nat) : Prop := Norm l ∧ ¬ Small (wv l) ∧ l.length ≤ 1000000
/-- the value reads as the integer z -/
def IV (w : World) (v : Value) (z : Int) : Prop :=
  (v = smallV z ∧ Small z) ∨ ∃ b g off cap l, v = bigV b (some ⟨g, off, none⟩) l.length cap ∧ WS w (some ⟨g, off, none⟩) g off cap l ∧ Big l ∧ z = sgn b (wv l)
instance smallDec (z : Int) : Decidable (Small z) := inferInstanceAs (Decidable (_ ∧ _))
theorem IV.far {w w' : World} {v : Value} {z : Int} (h : IV w v z) (hb : Below w.heap.size w w') : IV w' v z := by
  rcases h with h | ⟨b, g, off, cap, l, h1, h2, h3, h4⟩
  · exact .inl h
  · exact .inr ⟨b, g, off, cap, l, h1, h2.far hb, h3, h4⟩
theorem Big.pos {l : List Nat} (h : Big l) : 0 < wv l ∧ 1 < wv l := by
  have := h.2.1
  unfold Small at this
  omega
theorem big_sgn {b : Bool} {l : List Nat} (h : Big l) : ¬ Small (sgn b (wv l)) ∧ (sgn b (wv l) < 0 ↔ b = true) := by
  have h1 := h.2.1
  have h2 := h.pos
  unfold Small sgn at *
  cases b <;> simp <;> omega
theorem small_iv (w : World) {z : Int} (h : Small z) : IV w (smallV z) z := .inl ⟨rfl, h⟩

/-- -1, 0 or 1 -/
def sgnI (z : Int) : Int := if z < 0 then -1 else if 0 < z then 1 else 0

section
set_option maxRecDepth 100000
set_option maxHeartbeats 1000000
theorem mag_neq (w : World) (a : Addr) (n c : Nat) : (binOp .neq 56 (.slice (some a) n c) (.slice none 0 0)).run Tryz.prog w = .ok (.bool true) w := run_neq_slice_nil_any w _ _ (some a) n c 0 0 Tryz.underlying56
theorem mag_neq0 (w : World) : (binOp .neq 56 (.slice none 0 0) (.slice none 0 0)).run Tryz.prog w = .ok (.bool false) w := run_neq_slice_nil_any w _ _ none 0 0 0 0 Tryz.underlying56

theorem mag_eql (w : World) (a : Addr) (n c : Nat) : (binOp .eql 56 (.slice (some a) n c) (.slice none 0 0)).run Tryz.prog w = .ok (.bool false) w := Lib.run_eql_slice_nil w _ _ (some a) n c 0 0 Tryz.underlying56
theorem mag_eql0 (w : World) : (binOp .eql 56 (.slice none 0 0) (.slice none 0 0)).run Tryz.prog w = .ok (.bool true) w := Lib.run_eql_slice_nil w _ _ none 0 0 0 0 Tryz.underlying56

theorem sign_any (v : Value) (z : Int) (w : World) (h : IV w v z) :
    Calls Tryz.prog 127 #[v] w fun e w' => e = .returned (.int .i64 (sgnI z)) ∧ Below w.heap.size w w' := by
  have kq := mag_neq
  have kq0 := mag_neq0
  rcases h with ⟨rfl, hs⟩ | ⟨b, g, off, cap, l, rfl, hw, hl, rfl⟩
  · unfold smallV
    go_enter Tryz.func127, Tryz.ntmps127
    go_wp2
    all_goals go_ret
    all_goals exact ⟨ret_int (by unfold sgnI; grind), (Below.refl _ _).alloc (Nat.le_refl _) _⟩
  · have hsg := (big_sgn (b := b) hl).2
    have hz : ¬ sgn b (wv l) = 0 := fun e => (big_sgn (b := b) hl).1 (by rw [e]; unfold Small; omega)
    unfold bigV
    cases b
    · have HR : Hid (sgnI (sgn false (wv l)) = 1) := Lib.hid (by unfold sgnI; grind)
      clear hsg hz
      go_enter Tryz.func127, Tryz.ntmps127
      go_wp2
      go_ret
      exact ⟨ret_int HR.out.symm, (Below.refl _ _).alloc (Nat.le_refl _) _⟩
    · have HR : Hid (sgnI (sgn true (wv l)) = -1) := Lib.hid (by unfold sgnI; grind)
      clear hsg hz
      go_enter Tryz.func127, Tryz.ntmps127
      go_wp2
      go_ret
      exact ⟨ret_int HR.out.symm, (Below.refl _ _).alloc (Nat.le_refl _) _⟩

theorem isSmall_any (v : Value) (z : Int) (w : World) (h : IV w v z) :
    Calls Tryz.prog 77 #[v] w fun e w' => e = .returned (.tuple #[.int .i64 (if Small z then z else 0), .bool (decide (Small z))]) ∧ Below w.heap.size w w' := by
  have kq := mag_eql
  have kq0 := mag_eql0
  rcases h with ⟨rfl, hs⟩ | ⟨b, g, off, cap, l, rfl, hw, hl, rfl⟩
  · rw [if_pos hs, decide_eq_true hs]
    unfold smallV
    go_enter Tryz.func77, Tryz.ntmps77
    go_wp2
    go_quiet (fail)
    go_wp2
    go_ret2
    exact ⟨rfl, below_drewN ((Below.refl _ _).alloc (Nat.le_refl _) _) _⟩
  · have hn := (big_sgn (b := b) hl).1
    rw [if_neg hn, decide_eq_false hn]
    clear hn
    unfold bigV
    go_enter Tryz.func77, Tryz.ntmps77
    go_wp2
    go_quiet (fail)
    go_wp2
    go_ret2
    exact ⟨rfl, below_drewN ((Below.refl _ _).alloc (Nat.le_refl _) _) _⟩

theorem isZero_any (v : Value) (z : Int) (w : World) (h : IV w v z) :
    Calls Tryz.prog 98 #[v] w fun e w' => e = .returned (.bool (decide (z = 0))) ∧ Below w.heap.size w w' := by
  have kq := mag_eql
  have kq0 := mag_eql0
  rcases h with ⟨rfl, hs⟩ | ⟨b, g, off, cap, l, rfl, hw, hl, rfl⟩
  · unfold smallV
    go_enter Tryz.func98, Tryz.ntmps98
    go_wp2
    go_ret
    exact ⟨ret_bool (by rw [Bool.eq_iff_iff]; simp), (Below.refl _ _).alloc (Nat.le_refl _) _⟩
  · have hn := (big_sgn (b := b) hl).1
    have HR : Hid (decide (sgn b (wv l) = 0) = false) := Lib.hid (decide_eq_false fun e => hn (by rw [e]; unfold Small; omega))
    clear hn
    unfold bigV
    go_enter Tryz.func98, Tryz.ntmps98
    go_wp2
    go_ret
    exact ⟨ret_bool HR.out.symm, (Below.refl _ _).alloc (Nat.le_refl _) _⟩

theorem isOne_any (v : Value) (z : Int) (w : World) (h : IV w v z) :
    Calls Tryz.prog 129 #[v] w fun e w' => e = .returned (.bool (decide (z = 1))) ∧ Below w.heap.size w w' := by
  have kq := mag_eql
  have kq0 := mag_eql0
  rcases h with ⟨rfl, hs⟩ | ⟨b, g, off, cap, l, rfl, hw, hl, rfl⟩
  · unfold smallV
    go_enter Tryz.func129, Tryz.ntmps129
    go_wp2
    go_ret
    exact ⟨ret_bool (by rw [Bool.eq_iff_iff]; simp), (Below.refl _ _).alloc (Nat.le_refl _) _⟩
  · have hn := (big_sgn (b := b) hl).1
    have HR : Hid (decide (sgn b (wv l) = 1) = false) := Lib.hid (decide_eq_false fun e => hn (by rw [e]; unfold Small; omega))
    clear hn
    unfold bigV
    go_enter Tryz.func129, Tryz.ntmps129
    go_wp2
    go_ret
    exact ⟨ret_bool HR.out.symm, (Below.refl _ _).alloc (Nat.le_refl _) _⟩

/-- a value that reads as z, and nothing else has changed -/
def GetsI (z : Int) (w : World) (e : Ending) (w' : World) : Prop := ∃ v, e = .returned v ∧ IV w' v z ∧ Below w.heap.size w w'
theorem neg_small {z : Int} (h : Small z) : Small (-z) := by unfold Small at *; omega
theorem sgn_neg (b : Bool) (n : Nat) : sgn (!b) n = -sgn b n := by cases b <;> simp [sgn]

theorem neg_any (v : Value) (z : Int) (w : World) (h : IV w v z) : Calls Tryz.prog 128 #[v] w (GetsI (-z) w) := by
  have kq := mag_eql
  have kq0 := mag_eql0
  rcases h with ⟨rfl, hs⟩ | ⟨b, g, off, cap, l, rfl, hw, hl, rfl⟩
  · have h1 : -9223372036854775807 ≤ z := hs.1
    have h2 : z ≤ 9223372036854775807 := hs.2
    unfold smallV
    go_enter Tryz.func128, Tryz.ntmps128
    go_wp2
    exact bodyPost_ret (v := smallV (-z)) (by simp [results, Tryz.results128, go_sem, smallV]) rfl ⟨_, rfl, small_iv _ (neg_small hs), ((Below.refl _ _).alloc (Nat.le_refl _) _).alloc (by simp) _⟩
  · unfold bigV
    go_enter Tryz.func128, Tryz.ntmps128
    go_wp2
    have hbl : Below w.heap.size w ((w.alloc (.cells #[.int .i64 0, .bool b, .slice (some ⟨g, off, none⟩) l.length cap] 58)).alloc (.cells #[.int .i64 0, .bool !b, .slice (some ⟨g, off, none⟩) l.length cap] 58)) :=
      ((Below.refl _ _).alloc (Nat.le_refl _) _).alloc (by simp) _
    exact bodyPost_ret (v := bigV (!b) (some ⟨g, off, none⟩) l.length cap) (by simp [results, Tryz.results128, go_sem, bigV]) rfl
      ⟨_, rfl, .inr ⟨!b, g, off, cap, l, rfl, hw.far hbl, hl, (sgn_neg b _).symm⟩, hbl⟩

theorem IV.alloc_of {w : World} {v : Value} {z : Int} (h : IV w v z) (o : Obj) : IV (w.alloc o) v z := h.far ((Below.refl _ _).alloc (Nat.le_refl _) _)
theorem IV.store {w : World} {v : Value} {z : Int} (h : IV w v z) {p : Addr} {cs : Array Value} {t : TypeId} {fr : Nat × Nat} (hp : w.heap[p.block]? = some (.cells cs t fr)) (ht : t ≠ 109) (u : Value) : IV (w.setCell p u) v z := by
  rcases h with h | ⟨b, g, off, cap, l, h1, h2, h3, h4⟩
  · exact .inl h
  · exact .inr ⟨b, g, off, cap, l, h1, h2.store hp ht u, h3, h4⟩
theorem heap_set {w : World} {R : Nat} {cs : Array Value} {t : TypeId} {fr : Nat × Nat} (h : w.heap[R]? = some (.cells cs t fr)) (i : Nat) (u : Value) : (w.setCell ⟨R, i, none⟩ u).heap[R]? = some (.cells (cs.setIfInBounds i u) t fr) := by
  simp [World.setCell, Array.getElem?_modify, h]
theorem heap_cell {w : World} {R : Nat} {cs : Array Value} {t : TypeId} {fr : Nat × Nat} (h : w.heap[R]? = some (.cells cs t fr)) (i : Nat) : w.cell? ⟨R, i, none⟩ = cs[i]? := cell_of_row w R i cs t fr h
theorem heap_fz {w : World} {R : Nat} {cs : Array Value} {t : TypeId} (h : w.heap[R]? = some (.cells cs t (0, 0))) (i : Nat) : w.frozen? ⟨R, i, none⟩ = false := by simp [World.frozen?, h]
/-- a value as the cells that hold it -/
theorem iv_form {w : World} {v : Value} {z : Int} (h : IV w v z) : ∃ s b ao n c, v = .agg #[.int .i64 s, .bool b, .slice ao n c] := by
  rcases h with ⟨rfl, _⟩ | ⟨b, g, off, cap, l, rfl, _⟩
  · exact ⟨_, _, _, _, _, rfl⟩
  · exact ⟨_, _, _, _, _, rfl⟩

theorem IV.set3 {w : World} {v : Value} {z : Int} (h : IV w v z) {R : Nat} {cs : Array Value} (hR : w.heap[R]? = some (.cells cs 58 (0, 0))) (x y u : Value) : IV (set3 w R x y u) v z :=
  ((h.store (p := ⟨R, 0, none⟩) hR (by decide) x).store (p := ⟨R, 1, none⟩) (heap_set hR 0 x) (by decide) y).store (p := ⟨R, 2, none⟩) (heap_set (heap_set hR 0 x) 1 y) (by decide) u
theorem new_second (w : World) (o o' : Obj) : ((w.alloc o).alloc o').heap[w.heap.size + 1]? = some o' := by
  have := heap_alloc_new (w.alloc o) o'
  simpa using this
theorem end_int {fn : Func} {t : Tmp} {a : Act} {w w2 : World} {R : Nat} {z s : Int} {b : Bool} {ao : Option Addr} {n c : Nat} {x0 x1 x2 : Value} (hres : fn.results = #[.cell t 58]) (hd : a.defers = []) (ht : a.tmps.getD t undef = .pointer (some ⟨R, 0, none⟩))
    (hR : w2.heap[R]? = some (.cells #[x0, x1, x2] 58 (0, 0))) (hv : IV w2 (.agg #[.int .i64 s, .bool b, .slice ao n c]) z) (hb : Below w.heap.size w w2) (hRB : w.heap.size ≤ R) :
    bodyPost Tryz.prog fn (GetsI z w) .ret a (((w2.setCell ⟨R, 0, none⟩ (.int .i64 s)).setCell ⟨R, 1, none⟩ (.bool b)).setCell ⟨R, 2, none⟩ (.slice ao n c)) := by
  have h3 := heap_set (heap_set (heap_set hR 0 (.int .i64 s)) 1 (.bool b)) 2 (.slice ao n c)
  have k0 := heap_cell h3 0
  have k1 := heap_cell h3 1
  have k2 := heap_cell h3 2
  have hiv := hv.set3 hR (.int .i64 s) (.bool b) (.slice ao n c)
  have hbl := ((hb.setCell (show w.heap.size ≤ (⟨R, 0, none⟩ : Addr).block from hRB) (.int .i64 s)).setCell (show w.heap.size ≤ (⟨R, 1, none⟩ : Addr).block from hRB) (.bool b)).setCell (show w.heap.size ≤ (⟨R, 2, none⟩ : Addr).block from hRB) (.slice ao n c)
  unfold set3 at hiv
  generalize ((w2.setCell ⟨R, 0, none⟩ (.int .i64 s)).setCell ⟨R, 1, none⟩ (.bool b)).setCell ⟨R, 2, none⟩ (.slice ao n c) = w3 at *
  simp only [Array.setIfInBounds, Array.set, List.set, Array.size, List.length] at k0 k1 k2
  simp at k0 k1 k2
  refine bodyPost_ret (v := .agg #[.int .i64 s, .bool b, .slice ao n c]) ?_ hd ⟨_, rfl, hiv, hbl⟩
  have ht' : a.tmps[t]?.getD undef = .pointer (some ⟨R, 0, none⟩) := by simpa using ht
  simp [results, hres, go_sem, ht', k0, k1, k2]

theorem min_words : wv [0, 2147483648] = 9223372036854775808 := by rw [wv_cons, wv_cons, wv_nil, BB_eq]
theorem min_sgn : sgn true (wv [0, 2147483648]) = -9223372036854775808 := by rw [min_words]; rfl
theorem min_big : Big [0, 2147483648] := by
  refine ⟨⟨Ws.cons BB_pos (Ws.cons (by rw [BB_eq]; omega) Ws.nil), fun x hx => by simp at hx; omega⟩, ?_, by simp⟩
  rw [min_words]; unfold Small; omega
theorem fromInt64_any (z : Int) (w : World) (h1 : -9223372036854775808 ≤ z) (h2 : z ≤ 9223372036854775807) :
    Calls Tryz.prog 72 #[.int .i64 z] w (GetsI z w) := by
  by_cases hz : z = -9223372036854775808
  · have hzb : (z == -9223372036854775808) = true := by simp [hz]
    have HZ := Lib.hid hz
    clear hz
    go_enter Tryz.func72, Tryz.ntmps72
    go_wp2
    have hbl : Below w.heap.size w ((w.alloc (.cells #[.int .i64 0, .bool true, .slice (some ⟨w.heap.size + 1, 0, none⟩) 2 2] 58)).alloc (.cells #[.int .u32 0, .int .u32 2147483648] 109)) :=
      ((Below.refl _ _).alloc (Nat.le_refl _) _).alloc (by simp) _
    have hws := WS.new (w.alloc (.cells #[.int .i64 0, .bool true, .slice (some ⟨w.heap.size + 1, 0, none⟩) 2 2] 58)) [0, 2147483648] min_big.1.1 (by simp)
    exact bodyPost_ret (v := bigV true (some ⟨w.heap.size + 1, 0, none⟩) 2 2) (by simp [results, Tryz.results72, go_sem, bigV]) rfl
      ⟨_, rfl, .inr ⟨true, w.heap.size + 1, 0, 2, [0, 2147483648], rfl, by simpa [u32s] using hws, min_big, by rw [HZ.out, min_sgn]⟩, hbl⟩
  · have hzb : (z == -9223372036854775808) = false := by simp [hz]
    have hs : Small z := by unfold Small; omega
    clear hz
    go_enter Tryz.func72, Tryz.ntmps72
    go_wp2
    exact bodyPost_ret (v := smallV z) (by simp [results, Tryz.results72, go_sem, smallV]) rfl ⟨_, rfl, small_iv _ hs, (Below.refl _ _).alloc (Nat.le_refl _) _⟩

theorem abs_any (v : Value) (z : Int) (w : World) (h : IV w v z) : Calls Tryz.prog 101 #[v] w (GetsI z.natAbs w) := by
  have hsg := fun (o o' : Obj) => sign_any v z ((w.alloc o).alloc o') ((h.alloc_of o).alloc_of o')
  have hng := fun (w' : World) (hb : Below w.heap.size w w') => neg_any v z w' (h.far hb)
  have HH := Lib.hid h
  obtain ⟨s, b, ao, n, c, rfl⟩ := iv_form h
  clear h
  by_cases hz : z < 0
  · have h1 : sgnI z = -1 := by unfold sgnI; rw [if_pos hz]
    rw [h1] at hsg
    have HZ : Hid (-z = (z.natAbs : Int)) := Lib.hid (by omega)
    clear h1
    go_enter Tryz.func101, Tryz.ntmps101
    go_wp2_with fail
    refine (hsg _ _).mono ?_
    rintro e w1 ⟨rfl, hb⟩
    obtain ⟨hc, hf⟩ := bcell hb
    have hz : w.heap.size + 1 < w1.heap.size := by have := hb.size; simp at this; omega
    have HB := Lib.hid (((Below.refl w.heap.size w).alloc (Nat.le_refl _) _).alloc (by simp) _ |>.trans (hb.mono (by simp; omega)))
    have HR := Lib.hid ((hb.block (w.heap.size + 1) (by simp)).trans (new_second w _ _))
    clear hb
    go_wp2_with fail
    refine (hng _ HB.out).mono ?_
    rintro e w2 ⟨v2, rfl, hv2, hb2⟩
    have HV2 := Lib.hid hv2
    obtain ⟨s2, b2, a2, n2, c2, rfl⟩ := iv_form hv2
    obtain ⟨hc2, hf2⟩ := bcell hb2
    have HB2 := Lib.hid (HB.out.trans (hb2.mono HB.out.size))
    have HR2 := Lib.hid ((hb2.block (w.heap.size + 1) hz).trans HR.out)
    clear hb2 hv2
    go_wp2
    rw [← HZ.out]
    exact end_int Tryz.results101 rfl rfl HR2.out HV2.out HB2.out (by omega)
  · have h1 : ¬ sgnI z < 0 := by unfold sgnI; grind
    have HZ : Hid (z = (z.natAbs : Int)) := Lib.hid (by omega)
    go_enter Tryz.func101, Tryz.ntmps101
    go_wp2_with fail
    refine (hsg _ _).mono ?_
    rintro e w1 ⟨rfl, hb⟩
    obtain ⟨hc, hf⟩ := bcell hb
    have hz : w.heap.size + 1 < w1.heap.size := by have := hb.size; simp at this; omega
    have HB := Lib.hid (((Below.refl w.heap.size w).alloc (Nat.le_refl _) _).alloc (by simp) _ |>.trans (hb.mono (by simp; omega)))
    have HR := Lib.hid ((hb.block (w.heap.size + 1) (by simp)).trans (new_second w _ _))
    clear hb
    go_wp2
    rw [← HZ.out]
    exact end_int Tryz.results101 rfl rfl HR.out (HH.out.far HB.out) HB.out (by omega)

def PartsPost (z : Int) (w : World) (e : Ending) (w' : World) : Prop :=
  ∃ v l, e = .returned (.tuple #[.bool (decide (z < 0)), v]) ∧ WV w' v l ∧ Norm l ∧ wv l = z.natAbs ∧ l.length ≤ 1000000 ∧ Below w.heap.size w w'
theorem parts_any (v : Value) (z : Int) (w : World) (h : IV w v z) : Calls Tryz.prog 137 #[v] w (PartsPost z w) := by
  have kq := mag_neq
  have kq0 := mag_neq0
  rcases h with ⟨rfl, hs⟩ | ⟨b, g, off, cap, l, rfl, hw, hl, rfl⟩
  · have h1 : -9223372036854775807 ≤ z := hs.1
    have h2 : z ≤ 9223372036854775807 := hs.2
    have hwo := fun o : Obj => wordsOf_any z.natAbs (w.alloc o) (by omega)
    unfold smallV
    by_cases hz : z < 0
    · have e1 : (-z : Int) = (z.natAbs : Int) := by omega
      have HE := Lib.hid e1
      clear e1
      have hd : decide (z < 0) = true := by simpa using hz
      go_enter Tryz.func137, Tryz.ntmps137
      have hwo2 : ∀ o : Obj, Calls Tryz.prog 156 #[.int .u64 (-z)] (w.alloc o) (WordsPost z.natAbs (w.alloc o)) := fun o => by rw [HE.out]; exact hwo o
      go_wp2_with fail
      refine (hwo2 _).mono ?_
      rintro e w' ⟨v, l, rfl, hwv, hn, hv, hlen, hb⟩
      go_wp2
      go_ret2
      exact ⟨_, l, ret_two (congrArg Value.bool hd.symm) rfl, hwv, hn, hv, by omega, ((Below.refl _ _).alloc (Nat.le_refl _) _).trans (hb.mono (by simp))⟩
    · have e1 : (z : Int) = (z.natAbs : Int) := by omega
      have HE := Lib.hid e1
      clear e1
      have hd : decide (z < 0) = false := by simpa using hz
      have hz0 : 0 ≤ z := by omega
      have hwo2 : ∀ o : Obj, Calls Tryz.prog 156 #[.int .u64 z] (w.alloc o) (WordsPost z.natAbs (w.alloc o)) := fun o => by
        have := hwo o
        rw [← HE.out] at this; exact this
      go_enter Tryz.func137, Tryz.ntmps137
      go_wp2_with fail
      refine (hwo2 _).mono ?_
      rintro e w' ⟨v, l, rfl, hwv, hn, hv, hlen, hb⟩
      go_wp2
      go_ret2
      exact ⟨_, l, ret_two (congrArg Value.bool hd.symm) rfl, hwv, hn, hv, by omega, ((Below.refl _ _).alloc (Nat.le_refl _) _).trans (hb.mono (by simp))⟩
  · have hsg := (big_sgn (b := b) hl).2
    have hd : decide (sgn b (wv l) < 0) = b := by cases b <;> simp [hsg]
    have HD := Lib.hid hd
    have habs : (sgn b (wv l)).natAbs = wv l := by cases b <;> simp [sgn]
    have HA := Lib.hid habs
    clear hsg hd habs
    unfold bigV
    go_enter Tryz.func137, Tryz.ntmps137
    go_wp2
    go_quiet (fail)
    go_wp2
    go_ret2
    have hbl : Below w.heap.size w ((w.alloc (.cells #[.int .i64 0, .bool b, .slice (some ⟨g, off, none⟩) l.length cap] 58))) := (Below.refl _ _).alloc (Nat.le_refl _) _
    exact ⟨_, l, ret_two (congrArg Value.bool HD.out.symm) rfl, ⟨_, g, off, cap, rfl, (hw.far hbl).drewN _⟩, hl.1, HA.out.symm, hl.2.2, below_drewN hbl _⟩
end
end Go.Proofs.YtgehimcngljmnaaGreatDoor

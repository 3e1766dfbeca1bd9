/- Int.Mul of package exact. -/
import Derived.Test.YtapdbeaoakcjeaaGreatDoorCNC
import Derived.Test.YtapdbeaoakcjeaaGreatDoorCShelf
import Derived.Deep.RegionHeld3
import Derived.Deep.DeepCutAuto
import Derived.Deep.LoopGhost
import Derived.Deep.AppendLies
namespace Go.Proofs.YtapdbeaoakcjeaaGreatDoor
open Go.RowKit Nmx

theorem sgn_mul (a b : Bool) (m n : Nat) : sgn (a != b) (m * n) = sgn a m * sgn b n := by
  cases a <;> cases b <;> simp [sgn, Int.neg_mul, Int.mul_neg]
end Go.Proofs.YtapdbeaoakcjeaaGreatDoor
/- Int.Cmp of package exact; QuoRem of small integers. -/
namespace Go.Proofs.YtapdbeaoakcjeaaGreatDoor
open Go.RowKit Nmx

def cmpI (a b : Int) : Int := if a < b then -1 else if b < a then 1 else 0
section
set_option maxRecDepth 100000
set_option maxHeartbeats 4000000
theorem below2 (w : World) (o o' : Obj) : Below w.heap.size w ((w.alloc o).alloc o') := ((Below.refl w.heap.size w).alloc (Nat.le_refl _) _).alloc (by simp) _
end
end Go.Proofs.YtapdbeaoakcjeaaGreatDoor
namespace Go.Proofs.YtapdbeaoakcjeaaGreatDoor
open Go.RowKit Nmx

section
set_option maxRecDepth 100000
set_option maxHeartbeats 4000000
theorem iv_small {w : World} {v : Value} {z : Int} (h : IV w v z) (hs : Small z) : v = smallV z := by
  rcases h with ⟨h, _⟩ | ⟨b, g, off, cap, l, _, _, h3, rfl⟩
  · exact h
  · exact absurd hs (big_sgn h3).1
end
end Go.Proofs.YtapdbeaoakcjeaaGreatDoor
namespace Go.Proofs.YtapdbeaoakcjeaaGreatDoor
open Go.RowKit Nmx

theorem Res.cells {w : World} {R : Nat} (h : w.heap[R]? = some (.cells #[.int .i64 0, .bool false, .slice none 0 0] 155 (0, 0))) : w.cell? ⟨R, 0, none⟩ = some (.int .i64 0) ∧ w.cell? ⟨R, 1, none⟩ = some (.bool false) ∧ w.cell? ⟨R, 2, none⟩ = some (.slice none 0 0) ∧ w.frozen? ⟨R, 0, none⟩ = false ∧ w.frozen? ⟨R, 1, none⟩ = false ∧ w.frozen? ⟨R, 2, none⟩ = false :=
  ⟨heap_cell h 0, heap_cell h 1, heap_cell h 2, heap_fz h 0, heap_fz h 1, heap_fz h 2⟩
end Go.Proofs.YtapdbeaoakcjeaaGreatDoor
/- Gcd of small integers. -/
namespace Go.Proofs.YtapdbeaoakcjeaaGreatDoor
open Go.RowKit Nmx

/-- Gcd of two small integers, its two variables and its result in blocks B, B + 1, B + 2 -/
structure GcdS (B : Nat) (w0 wx : World) (x y : Int) : Prop where
  ha : wx.heap[B]? = some (.cells #[.int .i64 x, .bool false, .slice none 0 0] 155 (0, 0))
  hb : wx.heap[B + 1]? = some (.cells #[.int .i64 y, .bool false, .slice none 0 0] 155 (0, 0))
  hr : wx.heap[B + 2]? = some (.cells #[.int .i64 0, .bool false, .slice none 0 0] 155 (0, 0))
  bel : Below B w0 wx

theorem Cells.of {w : World} {R : Nat} {t : TypeId} {x y z : Value} (h : w.heap[R]? = some (.cells #[x, y, z] t (0, 0))) : w.cell? ⟨R, 0, none⟩ = some x ∧ w.cell? ⟨R, 1, none⟩ = some y ∧ w.cell? ⟨R, 2, none⟩ = some z ∧ w.frozen? ⟨R, 0, none⟩ = false ∧ w.frozen? ⟨R, 1, none⟩ = false ∧ w.frozen? ⟨R, 2, none⟩ = false :=
  ⟨heap_cell h 0, heap_cell h 1, heap_cell h 2, heap_fz h 0, heap_fz h 1, heap_fz h 2⟩
theorem new3 (w : World) (o o' o2 : Obj) : (((w.alloc o).alloc o').alloc o2).heap[w.heap.size]? = some o ∧ (((w.alloc o).alloc o').alloc o2).heap[w.heap.size + 1]? = some o' ∧ (((w.alloc o).alloc o').alloc o2).heap[w.heap.size + 2]? = some o2 := by
  refine ⟨?_, ?_, new_third w o o' o2⟩
  · rw [Below.heap_alloc _ _ _ (by simp; omega), Below.heap_alloc _ _ _ (by simp)];exact heap_alloc_new w o
  · rw [Below.heap_alloc _ _ _ (by simp)];exact new_second w o o'
theorem GcdS.far {B : Nat} {w0 wx w1 : World} {x y : Int} (h : GcdS B w0 wx x y) (hb : Below wx.heap.size wx w1) (hB : B = w0.heap.size) : GcdS B w0 w1 x y :=
  ⟨(hb.block _ (lt_of_heap h.ha)).trans h.ha, (hb.block _ (lt_of_heap h.hb)).trans h.hb, (hb.block _ (lt_of_heap h.hr)).trans h.hr, h.bel.trans (hb.mono (by rw [hB]; exact h.bel.size))⟩
theorem GcdS.drewN {B : Nat} {w0 wx : World} {x y : Int} (h : GcdS B w0 wx x y) (n : Nat) : GcdS B w0 (wx.drewN n) x y := ⟨h.ha, h.hb, h.hr, below_drewN h.bel n⟩
theorem set3_heap {w : World} {R : Nat} {x y z a b c : Value} {t : TypeId} (h : w.heap[R]? = some (.cells #[a, b, c] t (0, 0))) : (((w.setCell ⟨R, 0, none⟩ x).setCell ⟨R, 1, none⟩ y).setCell ⟨R, 2, none⟩ z).heap[R]? = some (.cells #[x, y, z] t (0, 0)) := by
  have := heap_set (heap_set (heap_set h 0 x) 1 y) 2 z
  simpa using this
theorem set3_other {w : World} {R g : Nat} (x y z : Value) (h : g ≠ R) : (((w.setCell ⟨R, 0, none⟩ x).setCell ⟨R, 1, none⟩ y).setCell ⟨R, 2, none⟩ z).heap[g]? = w.heap[g]? := by
  rw [Below.heap_setCell _ _ _ _ h, Below.heap_setCell _ _ _ _ h, Below.heap_setCell _ _ _ _ h]
theorem gcdS_store {w w2 : World} {x0 x1 x2 y0 y1 y2 : Value} {x y : Int} (h0 : w2.heap[w.heap.size]? = some (.cells #[x0, x1, x2] 155 (0, 0))) (h1 : w2.heap[w.heap.size + 1]? = some (.cells #[y0, y1, y2] 155 (0, 0)))
    (h2 : w2.heap[w.heap.size + 2]? = some (.cells #[.int .i64 0, .bool false, .slice none 0 0] 155 (0, 0))) (hb : Below w.heap.size w w2) :
    GcdS w.heap.size w ((((((w2.setCell ⟨w.heap.size, 0, none⟩ (.int .i64 x)).setCell ⟨w.heap.size, 1, none⟩ (.bool false)).setCell ⟨w.heap.size, 2, none⟩ (.slice none 0 0)).setCell ⟨w.heap.size + 1, 0, none⟩ (.int .i64 y)).setCell ⟨w.heap.size + 1, 1, none⟩ (.bool false)).setCell ⟨w.heap.size + 1, 2, none⟩ (.slice none 0 0)) x y := by
  refine ⟨?_, ?_, ?_, ?_⟩
  · rw [set3_other _ _ _ (by omega)]; exact set3_heap h0
  · exact set3_heap (by rw [set3_other _ _ _ (by omega)]; exact h1)
  · rw [set3_other _ _ _ (by omega), set3_other _ _ _ (by omega)]; exact h2
  · exact (((((hb.setCell (show w.heap.size ≤ (⟨w.heap.size, 0, none⟩ : Addr).block from Nat.le_refl _) _).setCell (show w.heap.size ≤ (⟨w.heap.size, 1, none⟩ : Addr).block from Nat.le_refl _) _).setCell (show w.heap.size ≤ (⟨w.heap.size, 2, none⟩ : Addr).block from Nat.le_refl _) _).setCell (show w.heap.size ≤ (⟨w.heap.size + 1, 0, none⟩ : Addr).block from Nat.le_succ _) _).setCell (show w.heap.size ≤ (⟨w.heap.size + 1, 1, none⟩ : Addr).block from Nat.le_succ _) _).setCell (show w.heap.size ≤ (⟨w.heap.size + 1, 2, none⟩ : Addr).block from Nat.le_succ _) _

section
set_option maxRecDepth 100000
set_option maxHeartbeats 4000000
theorem gcd_ss {za zb : Int} (w : World) (hza : Small za) (hzb : Small zb) :
    Calls Tryz.prog 158 #[.agg #[.int .i64 za, .bool false, .slice none 0 0], .agg #[.int .i64 zb, .bool false, .slice none 0 0]] w (GetsI (Int.gcd za zb) w) := by
  have kq0 := mag_eql0;have hsa : Small (za.natAbs : Int) := by unfold Small at *; omega
  have hsb : Small (zb.natAbs : Int) := by unfold Small at *; omega
  have hab := fun (z : Int) (hz : Small z) (hs : Small (z.natAbs : Int)) (W : World) => (abs_any _ z W (small_iv W hz)).mono fun e w' ⟨v, he, hv, hb⟩ => (⟨by rw [he, iv_small hv hs], hb⟩ : e = Ending.returned (smallV (z.natAbs : Int)) ∧ Below W.heap.size W w')
  have haa := hab za hza hsa;have hbb := hab zb hzb hsb;unfold smallV at haa hbb;clear hab;show Calls _ _ _ w (GetsI ((Nat.gcd za.natAbs zb.natAbs : Nat) : Int) w);have hxm : (za.natAbs : Int) ≤ 9223372036854775807 := hsa.2;have hym : (zb.natAbs : Int) ≤ 9223372036854775807 := hsb.2;clear hza hzb hsa;generalize za.natAbs = x at *;generalize zb.natAbs = y at *;have hx0 : (0 : Int) ≤ (x : Int) := by omega
  have hy0 : (0 : Int) ≤ (y : Int) := by omega
  go_enter Tryz.func158, Tryz.ntmps158
  go_upto_region 1 with fail
  go_cut [9] (fun _ wx => GcdS w.heap.size w wx x y)
  case first =>
    go_region_with ((first | (go_at_call 189; first
      | (with_reducible refine (haa _).mono ?_
         rintro e w1 ⟨rfl, hb1⟩;obtain ⟨hc1, hf1⟩ := bcell hb1;have hz1 : w.heap.size + 2 < w1.heap.size := by have := hb1.size; simp at this; omega
         have hz1a : w.heap.size < w1.heap.size := by omega
         have hz1b : w.heap.size + 1 < w1.heap.size := by omega
         have HB1 := Lib.hid ((below_drewN (below3 w _ _ _) _).trans (hb1.mono (by simp; omega)))
         have HG1 := Lib.hid (And.intro (hb1.block w.heap.size (by simp; omega)) (And.intro (hb1.block (w.heap.size + 1) (by simp)) (hb1.block (w.heap.size + 2) (by simp)))))
      | (with_reducible refine (hbb _).mono ?_
         rintro e w2 ⟨rfl, hb2⟩;obtain ⟨hc2, hf2⟩ := bcell hb2;have hz2 : w.heap.size + 2 < w2.heap.size := by have := hb2.size; omega
         have HB2 := Lib.hid (HB1.out.trans (hb2.mono (Nat.le_of_lt hz1a)))
         have HG2 := Lib.hid (And.intro (((hb2.block w.heap.size hz1a).trans HG1.out.1).trans (new3 w _ _ _).1) (And.intro (((hb2.block (w.heap.size + 1) hz1b).trans HG1.out.2.1).trans (new3 w _ _ _).2.1) (((hb2.block (w.heap.size + 2) hz1).trans HG1.out.2.2).trans (new3 w _ _ _).2.2)))))))
    all_goals (go_wp2_with fail; go_meet; exact gcdS_store HG2.out.1 HG2.out.2.1 HG2.out.2.2 HB2.out)
  case rest =>
    clear haa hbb;have HC := Lib.hid hcut;clear hcut
    go_wp2
    go_loopg [14] 0 (fun _ _ wr => GcdS w.heap.size w wr x y)
    case atStart => exact HC.out
    case round =>
      clear HC;have HC := Lib.hid hrel;obtain ⟨c0, c1, c2, -⟩ := Cells.of hrel.hb;clear hrel;have hiz := isZero_any _ _ wr (small_iv wr hsb);unfold smallV at hiz
      go_wp2_with fail
      refine hiz.mono ?_;rintro e w3 ⟨rfl, hb3⟩;have HC3 := Lib.hid (HC.out.far hb3 rfl);clear hiz hb3 c0 c1 c2 HC;obtain ⟨a0, a1, a2, -⟩ := Cells.of HC3.out.ha;obtain ⟨b0, b1, b2, -⟩ := Cells.of HC3.out.hb;obtain ⟨r0, r1, r2, f0, f1, f2⟩ := Cells.of HC3.out.hr
      by_cases hy : y = 0
      · subst hy
        go_wp2
        rw [Nat.gcd_zero_right];exact end_int Tryz.results158 rfl rfl HC3.out.hr (small_iv _ (by unfold Small; omega)) HC3.out.bel (by omega)
      · have hyb : decide ((y : Int) = 0) = false := by simpa using hy
        go_wp2
        go_quiet (fail)
        go_wp2
        go_loopw [5, 6] (fun s t wr => ∃ p q : Nat, s = .int .i64 p ∧ t = .int .i64 q ∧ Nat.gcd p q = Nat.gcd x y ∧ (p : Int) ≤ 9223372036854775807 ∧ (q : Int) ≤ 9223372036854775807 ∧ GcdS w.heap.size w wr x y) (fun _ t _ => (intOf t).toNat)
        case atStart => exact ⟨x, y, rfl, rfl, rfl, hxm, hym, HC3.out.drewN _⟩
        case round =>
          clear a0 a1 a2 b0 b1 b2 r0 r1 r2 f0 f1 f2 HC3;obtain ⟨p, q, rfl, rfl, hg, hp, hq, hc⟩ := hrel;have HG := Lib.hid hg;have HC4 := Lib.hid hc;obtain ⟨r0, r1, r2, f0, f1, f2⟩ := Cells.of hc.hr;clear hg hc
          by_cases hq0 : q = 0
          · subst hq0;have HP : Hid (p = Nat.gcd x y) := Lib.hid (by rw [← HG.out, Nat.gcd_zero_right])
            go_wp2
            rw [← HP.out];exact end_int Tryz.results158 rfl rfl HC4.out.hr (small_iv _ (by unfold Small; omega)) HC4.out.bel (by omega)
          · have hqb : ((q : Int) != 0) = true := by simp; omega
            have hqe : ((q : Int) == 0) = false := by simp; omega
            have hp0 : (0 : Int) ≤ (p : Int) := by omega
            have hq1 : (0 : Int) < (q : Int) := by omega
            have hlt : p % q < q := Nat.mod_lt _ (by omega);have hpq : (p : Int) % (q : Int) = ((p % q : Nat) : Int) := rfl;have HR : Hid (Nat.gcd q (p % q) = Nat.gcd x y) := Lib.hid (by rw [← HG.out, Nat.gcd_comm p q, Nat.gcd_rec q p, Nat.gcd_comm]);have hpt : (p : Int).tmod (q : Int) = ((p % q : Nat) : Int) := rfl;generalize p % q = r at *
            go_wp2
            go_quiet (fail)
            go_wp2
            go_roundw
            case rel => exact ⟨q, r, rfl, rfl, HR.out, hq, by omega, HC4.out.drewN _⟩
            case measure => simp [intOf]; omega
end
end Go.Proofs.YtapdbeaoakcjeaaGreatDoor
namespace Go.Proofs.YtapdbeaoakcjeaaGreatDoor
open Go.RowKit Nmx

/-- the denominator as package exact keeps it -/
def denI (q : Rat) : Int := if q.den = 1 then 0 else q.den
/-- the value reads as the rational number q -/
def RV (w : World) (v : Value) (q : Rat) : Prop := ∃ s1 b1 a1 n1 c1 s2 b2 a2 n2 c2, v = .agg #[.int .i64 s1, .bool b1, .slice a1 n1 c1, .int .i64 s2, .bool b2, .slice a2 n2 c2] ∧ IV w (.agg #[.int .i64 s1, .bool b1, .slice a1 n1 c1]) q.num ∧ IV w (.agg #[.int .i64 s2, .bool b2, .slice a2 n2 c2]) (denI q)
theorem RV.far {w w' : World} {v : Value} {q : Rat} (h : RV w v q) (hb : Below w.heap.size w w') : RV w' v q :=
  let ⟨s1, b1, a1, n1, c1, s2, b2, a2, n2, c2, e, h1, h2⟩ := h
  ⟨s1, b1, a1, n1, c1, s2, b2, a2, n2, c2, e, h1.far hb, h2.far hb⟩
def GetsQ (q : Rat) (w : World) (e : Ending) (w' : World) : Prop := ∃ v, e = .returned v ∧ RV w' v q ∧ Below w.heap.size w w'
def set6 (w : World) (R : Nat) (x0 x1 x2 x3 x4 x5 : Value) : World := (((((w.setCell ⟨R, 0, none⟩ x0).setCell ⟨R, 1, none⟩ x1).setCell ⟨R, 2, none⟩ x2).setCell ⟨R, 3, none⟩ x3).setCell ⟨R, 4, none⟩ x4).setCell ⟨R, 5, none⟩ x5
theorem set6_heap {w : World} {R : Nat} {y0 y1 y2 y3 y4 y5 : Value} {t : TypeId} (h : w.heap[R]? = some (.cells #[y0, y1, y2, y3, y4, y5] t (0, 0))) (x0 x1 x2 x3 x4 x5 : Value) : (set6 w R x0 x1 x2 x3 x4 x5).heap[R]? = some (.cells #[x0, x1, x2, x3, x4, x5] t (0, 0)) := by
  have := heap_set (heap_set (heap_set (heap_set (heap_set (heap_set h 0 x0) 1 x1) 2 x2) 3 x3) 4 x4) 5 x5
  simpa [set6] using this
theorem set6_other {w : World} {R g : Nat} (h : g ≠ R) (x0 x1 x2 x3 x4 x5 : Value) : (set6 w R x0 x1 x2 x3 x4 x5).heap[g]? = w.heap[g]? := by
  unfold set6;rw [Below.heap_setCell _ _ _ _ h, Below.heap_setCell _ _ _ _ h, Below.heap_setCell _ _ _ _ h, Below.heap_setCell _ _ _ _ h, Below.heap_setCell _ _ _ _ h, Below.heap_setCell _ _ _ _ h]
theorem set6_below {B : Nat} {w0 w : World} {R : Nat} (h : Below B w0 w) (hR : B ≤ R) (x0 x1 x2 x3 x4 x5 : Value) : Below B w0 (set6 w R x0 x1 x2 x3 x4 x5) :=
  (((((h.setCell (show B ≤ (⟨R, 0, none⟩ : Addr).block from hR) x0).setCell (show B ≤ (⟨R, 1, none⟩ : Addr).block from hR) x1).setCell (show B ≤ (⟨R, 2, none⟩ : Addr).block from hR) x2).setCell (show B ≤ (⟨R, 3, none⟩ : Addr).block from hR) x3).setCell (show B ≤ (⟨R, 4, none⟩ : Addr).block from hR) x4).setCell (show B ≤ (⟨R, 5, none⟩ : Addr).block from hR) x5
theorem WS.heap_same {w w' : World} {ao : Option Addr} {g off cap : Nat} {l : List Nat} (h : WS w ao g off cap l) {R : Nat} {cs : Array Value} {t : TypeId} {fr : Nat × Nat} (hR : w.heap[R]? = some (.cells cs t fr)) (ht : t ≠ 235) (ho : ∀ k, k ≠ R → w'.heap[k]? = w.heap[k]?) : WS w' ao g off cap l :=
  h.same fun hc => ho g (fun e => by
    obtain ⟨cs', fr', hb⟩ := h.blk hc;rw [e, hR] at hb
    cases hb; exact ht rfl)
theorem IV.heap_same {w w' : World} {v : Value} {z : Int} (h : IV w v z) {R : Nat} {cs : Array Value} {t : TypeId} {fr : Nat × Nat} (hR : w.heap[R]? = some (.cells cs t fr)) (ht : t ≠ 235) (ho : ∀ k, k ≠ R → w'.heap[k]? = w.heap[k]?) : IV w' v z := by
  rcases h with h | ⟨b, g, off, cap, l, h1, h2, h3, h4⟩
  · exact .inl h
  · exact .inr ⟨b, g, off, cap, l, h1, h2.heap_same hR ht ho, h3, h4⟩
theorem end_rat {fn : Func} {t : Tmp} {a : Act} {w w2 : World} {R : Nat} {q : Rat} {s1 : Int} {b1 : Bool} {a1 : Option Addr} {n1 c1 : Nat} {s2 : Int} {b2 : Bool} {a2 : Option Addr} {n2 c2 : Nat} {x0 x1 x2 x3 x4 x5 : Value} (hres : fn.results = #[.cell t 157]) (hd : a.defers = []) (ht : a.tmps.getD t undef = .pointer (some ⟨R, 0, none⟩))
    (hR : w2.heap[R]? = some (.cells #[x0, x1, x2, x3, x4, x5] 157 (0, 0))) (hn : IV w2 (.agg #[.int .i64 s1, .bool b1, .slice a1 n1 c1]) q.num) (hdn : IV w2 (.agg #[.int .i64 s2, .bool b2, .slice a2 n2 c2]) (denI q)) (hb : Below w.heap.size w w2) (hRB : w.heap.size ≤ R) :
    bodyPost Tryz.prog fn (GetsQ q w) .ret a ((((((w2.setCell ⟨R, 0, none⟩ (.int .i64 s1)).setCell ⟨R, 1, none⟩ (.bool b1)).setCell ⟨R, 2, none⟩ (.slice a1 n1 c1)).setCell ⟨R, 3, none⟩ (.int .i64 s2)).setCell ⟨R, 4, none⟩ (.bool b2)).setCell ⟨R, 5, none⟩ (.slice a2 n2 c2)) := by
  show bodyPost Tryz.prog fn (GetsQ q w) .ret a (set6 w2 R (.int .i64 s1) (.bool b1) (.slice a1 n1 c1) (.int .i64 s2) (.bool b2) (.slice a2 n2 c2));have h3 := set6_heap hR (.int .i64 s1) (.bool b1) (.slice a1 n1 c1) (.int .i64 s2) (.bool b2) (.slice a2 n2 c2);have hbl := set6_below hb hRB (.int .i64 s1) (.bool b1) (.slice a1 n1 c1) (.int .i64 s2) (.bool b2) (.slice a2 n2 c2);have ho : ∀ k, k ≠ R → (set6 w2 R (.int .i64 s1) (.bool b1) (.slice a1 n1 c1) (.int .i64 s2) (.bool b2) (.slice a2 n2 c2)).heap[k]? = w2.heap[k]? := fun k hk => set6_other hk _ _ _ _ _ _
  have hn2 := hn.heap_same hR (by decide) ho;have hd2 := hdn.heap_same hR (by decide) ho;generalize set6 w2 R (.int .i64 s1) (.bool b1) (.slice a1 n1 c1) (.int .i64 s2) (.bool b2) (.slice a2 n2 c2) = w3 at *;have k0 := heap_cell h3 0;have k1 := heap_cell h3 1;have k2 := heap_cell h3 2;have k3 := heap_cell h3 3;have k4 := heap_cell h3 4;have k5 := heap_cell h3 5
  simp at k0 k1 k2 k3 k4 k5
  refine bodyPost_ret (v := .agg #[.int .i64 s1, .bool b1, .slice a1 n1 c1, .int .i64 s2, .bool b2, .slice a2 n2 c2]) ?_ hd ⟨_, rfl, ⟨_, _, _, _, _, _, _, _, _, _, rfl, hn2, hd2⟩, hbl⟩;have ht' : a.tmps[t]?.getD undef = .pointer (some ⟨R, 0, none⟩) := by simpa using ht
  simp [results, hres, go_sem, ht', k0, k1, k2, k3, k4, k5]
end Go.Proofs.YtapdbeaoakcjeaaGreatDoor
namespace Go.Proofs.YtapdbeaoakcjeaaGreatDoor
open Go.RowKit Nmx

theorem decDigits_eq (n : Nat) : Lib.decDigits n = decN n := by
  induction n using Nat.strongRecOn with
  | _ n ih =>
    by_cases h : n < 10
    · rw [decN_small h, Lib.decDigits, dif_pos h]; rfl
    · rw [decN_big h, Lib.decDigits, dif_neg h, ih (n / 10) (by omega)]; rfl
theorem itoa_eq (z : Int) : Lib.itoa z = decI z := by
  unfold Lib.itoa decI;rw [decDigits_eq, decDigits_eq]
  split
  · rfl
  · rename_i h; rw [show z.toNat = z.natAbs by omega]
theorem parseM_ok (M : Nat) (l : List UInt8) : ∀ acc, l.all isD = true → (acc + 1) * 10 ^ l.length ≤ 1000000000000000000 → (acc + 1) * 10 ^ l.length ≤ M + 1 → Lib.parseUintM M acc l = .ok (acc * 10 ^ l.length + dv l) := by
  induction l with
  | nil => intro acc _ _ _; simp [Lib.parseUintM, dv_nil]
  | cons c r ih =>
    intro acc h h1 h2;rw [List.all_cons, Bool.and_eq_true] at h;have hc := isD_iff.1 h.1;rw [List.length_cons, Nat.pow_succ] at h1 h2;have hp : 0 < 10 ^ r.length := Nat.pow_pos (by omega);have e1 : (acc + 1) * (10 ^ r.length * 10) = (acc * 10 + 10) * 10 ^ r.length := by grind
    rw [e1] at h1 h2;have e2 : (acc * 10 + (c.toNat - 48) + 1) * 10 ^ r.length ≤ (acc * 10 + 10) * 10 ^ r.length := Nat.mul_le_mul_right _ (by omega);have e3 : (acc * 10 + 10) * 1 ≤ (acc * 10 + 10) * 10 ^ r.length := Nat.mul_le_mul_left _ hp;rw [Lib.parseUintM, if_pos hc, if_neg (by omega), if_neg (by omega), ih _ h.2 (by omega) (by omega), dv_cons, List.length_cons, Nat.pow_succ]
    congr 1
    grind
theorem parseU_ok (B : Nat) (l : List UInt8) (h : l.all isD = true) (h0 : l ≠ []) (h1 : l.length ≤ 18) (h2 : 10 ^ l.length ≤ 2 ^ B) : Lib.parseUintB B l = .ok (dv l) := by
  unfold Lib.parseUintB;rw [if_neg h0, parseM_ok _ _ _ h]
  · simp
  · have : 10 ^ l.length ≤ 10 ^ 18 := Nat.pow_le_pow_right (by omega) h1
    simpa using this
  · have : 0 < 2 ^ B := Nat.pow_pos (by omega)
    simp; omega
theorem parseI_ok (l : List UInt8) (h : l.all isD = true) (h0 : l ≠ []) (h1 : l.length ≤ 18) : Lib.parseIntB 64 l = .ok (dv l : Int) ∧ dv l < 1000000000000000000 := by
  have hp : 10 ^ l.length ≤ 10 ^ 18 := Nat.pow_le_pow_right (by omega) h1;have hu := parseU_ok 64 l h h0 h1 (by omega);have hl := dv_lt l h;refine ⟨?_, by omega⟩
  match l, h0 with
  | c :: r, _ =>
    rw [List.all_cons, Bool.and_eq_true] at h;have hc := isD_iff.1 h.1;unfold Lib.parseIntB;simp only;rw [if_neg (by omega), hu];simp only;rw [if_neg (by omega), if_neg (by omega), if_neg (by omega)]

end Go.Proofs.YtapdbeaoakcjeaaGreatDoor

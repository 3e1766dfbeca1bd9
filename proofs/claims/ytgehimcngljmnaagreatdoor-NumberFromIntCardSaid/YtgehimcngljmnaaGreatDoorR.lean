/- Gcd of small integers. -/
import Derived.Test.YtgehimcngljmnaaGreatDoorQ
import Derived.Deep.DeepCutAuto
import Derived.Deep.LoopGhost
namespace Go.Proofs.YtgehimcngljmnaaGreatDoor
open Go.RowKit Nmx

/-- Gcd of two small integers, its two variables and its result in blocks B, B + 1, B + 2 -/
structure GcdS (B : Nat) (w0 wx : World) (x y : Int) : Prop where
  ha : wx.heap[B]? = some (.cells #[.int .i64 x, .bool false, .slice none 0 0] 58 (0, 0))
  hb : wx.heap[B + 1]? = some (.cells #[.int .i64 y, .bool false, .slice none 0 0] 58 (0, 0))
  hr : wx.heap[B + 2]? = some (.cells #[.int .i64 0, .bool false, .slice none 0 0] 58 (0, 0))
  bel : Below B w0 wx

theorem Cells.of {w : World} {R : Nat} {t : TypeId} {x y z : Value} (h : w.heap[R]? = some (.cells #[x, y, z] t (0, 0))) : w.cell? ⟨R, 0, none⟩ = some x ∧ w.cell? ⟨R, 1, none⟩ = some y ∧ w.cell? ⟨R, 2, none⟩ = some z ∧ w.frozen? ⟨R, 0, none⟩ = false ∧ w.frozen? ⟨R, 1, none⟩ = false ∧ w.frozen? ⟨R, 2, none⟩ = false :=
  ⟨heap_cell h 0, heap_cell h 1, heap_cell h 2, heap_fz h 0, heap_fz h 1, heap_fz h 2⟩
theorem new3 (w : World) (o o' o2 : Obj) : (((w.alloc o).alloc o').alloc o2).heap[w.heap.size]? = some o ∧ (((w.alloc o).alloc o').alloc o2).heap[w.heap.size + 1]? = some o' ∧ (((w.alloc o).alloc o').alloc o2).heap[w.heap.size + 2]? = some o2 := by
  refine ⟨?_, ?_, new_third w o o' o2⟩
  · rw [Below.heap_alloc _ _ _ (by simp; omega), Below.heap_alloc _ _ _ (by simp)]
    exact heap_alloc_new w o
  · rw [Below.heap_alloc _ _ _ (by simp)]
    exact new_second w o o'
theorem GcdS.far {B : Nat} {w0 wx w1 : World} {x y : Int} (h : GcdS B w0 wx x y) (hb : Below wx.heap.size wx w1) (hB : B = w0.heap.size) : GcdS B w0 w1 x y :=
  ⟨(hb.block _ (lt_of_heap h.ha)).trans h.ha, (hb.block _ (lt_of_heap h.hb)).trans h.hb, (hb.block _ (lt_of_heap h.hr)).trans h.hr, h.bel.trans (hb.mono (by rw [hB]; exact h.bel.size))⟩
theorem GcdS.drewN {B : Nat} {w0 wx : World} {x y : Int} (h : GcdS B w0 wx x y) (n : Nat) : GcdS B w0 (wx.drewN n) x y := ⟨h.ha, h.hb, h.hr, below_drewN h.bel n⟩
theorem set3_heap {w : World} {R : Nat} {x y z a b c : Value} {t : TypeId} (h : w.heap[R]? = some (.cells #[a, b, c] t (0, 0))) : (((w.setCell ⟨R, 0, none⟩ x).setCell ⟨R, 1, none⟩ y).setCell ⟨R, 2, none⟩ z).heap[R]? = some (.cells #[x, y, z] t (0, 0)) := by
  have := heap_set (heap_set (heap_set h 0 x) 1 y) 2 z
  simpa using this
theorem set3_other {w : World} {R g : Nat} (x y z : Value) (h : g ≠ R) : (((w.setCell ⟨R, 0, none⟩ x).setCell ⟨R, 1, none⟩ y).setCell ⟨R, 2, none⟩ z).heap[g]? = w.heap[g]? := by
  rw [Below.heap_setCell _ _ _ _ h, Below.heap_setCell _ _ _ _ h, Below.heap_setCell _ _ _ _ h]
theorem gcdS_store {w w2 : World} {x0 x1 x2 y0 y1 y2 : Value} {x y : Int} (h0 : w2.heap[w.heap.size]? = some (.cells #[x0, x1, x2] 58 (0, 0))) (h1 : w2.heap[w.heap.size + 1]? = some (.cells #[y0, y1, y2] 58 (0, 0)))
    (h2 : w2.heap[w.heap.size + 2]? = some (.cells #[.int .i64 0, .bool false, .slice none 0 0] 58 (0, 0))) (hb : Below w.heap.size w w2) :
    GcdS w.heap.size w ((((((w2.setCell ⟨w.heap.size, 0, none⟩ (.int .i64 x)).setCell ⟨w.heap.size, 1, none⟩ (.bool false)).setCell ⟨w.heap.size, 2, none⟩ (.slice none 0 0)).setCell ⟨w.heap.size + 1, 0, none⟩ (.int .i64 y)).setCell ⟨w.heap.size + 1, 1, none⟩ (.bool false)).setCell ⟨w.heap.size + 1, 2, none⟩ (.slice none 0 0)) x y := by
  refine ⟨?_, ?_, ?_, ?_⟩
  · rw [set3_other _ _ _ (by omega)]; exact set3_heap h0
  · exact set3_heap (by rw [set3_other _ _ _ (by omega)]; exact h1)
  · rw [set3_other _ _ _ (by omega), set3_other _ _ _ (by omega)]; exact h2
  · exact (((((hb.setCell (show w.heap.size ≤ (⟨w.heap.size, 0, none⟩ : Addr).block from Nat.le_refl _) _).setCell (show w.heap.size ≤ (⟨w.heap.size, 1, none⟩ : Addr).block from Nat.le_refl _) _).setCell (show w.heap.size ≤ (⟨w.heap.size, 2, none⟩ : Addr).block from Nat.le_refl _) _).setCell (show w.heap.size ≤ (⟨w.heap.size + 1, 0, none⟩ : Addr).block from Nat.le_succ _) _).setCell (show w.heap.size ≤ (⟨w.heap.size + 1, 1, none⟩ : Addr).block from Nat.le_succ _) _).setCell (show w.heap.size ≤ (⟨w.heap.size + 1, 2, none⟩ : Addr).block from Nat.le_succ _) _

section
set_option maxRecDepth 100000
set_option maxHeartbeats 4000000
theorem gcd_ss {za zb : Int} (w : World) (hza : Small za) (hzb : Small zb) :
    Calls Tryz.prog 97 #[.agg #[.int .i64 za, .bool false, .slice none 0 0], .agg #[.int .i64 zb, .bool false, .slice none 0 0]] w (GetsI (Int.gcd za zb) w) := by
  have kq0 := mag_eql0
  have hsa : Small (za.natAbs : Int) := by unfold Small at *; omega
  have hsb : Small (zb.natAbs : Int) := by unfold Small at *; omega
  have hab := fun (z : Int) (hz : Small z) (hs : Small (z.natAbs : Int)) (W : World) => (abs_any _ z W (small_iv W hz)).mono fun e w' ⟨v, he, hv, hb⟩ => (⟨by rw [he, iv_small hv hs], hb⟩ : e = Ending.returned (smallV (z.natAbs : Int)) ∧ Below W.heap.size W w')
  have haa := hab za hza hsa
  have hbb := hab zb hzb hsb
  unfold smallV at haa hbb
  clear hab
  show Calls _ _ _ w (GetsI ((Nat.gcd za.natAbs zb.natAbs : Nat) : Int) w)
  have hxm : (za.natAbs : Int) ≤ 9223372036854775807 := hsa.2
  have hym : (zb.natAbs : Int) ≤ 9223372036854775807 := hsb.2
  clear hza hzb hsa
  generalize za.natAbs = x at *
  generalize zb.natAbs = y at *
  have hx0 : (0 : Int) ≤ (x : Int) := by omega
  have hy0 : (0 : Int) ≤ (y : Int) := by omega
  go_enter Tryz.func97, Tryz.ntmps97
  go_upto_region 1 with fail
  go_cut [9] (fun _ wx => GcdS w.heap.size w wx x y)
  case first =>
    go_region_with ((first | (go_at_call 101; first
      | (with_reducible refine (haa _).mono ?_
         rintro e w1 ⟨rfl, hb1⟩
         obtain ⟨hc1, hf1⟩ := bcell hb1
         have hz1 : w.heap.size + 2 < w1.heap.size := by have := hb1.size; simp at this; omega
         have hz1a : w.heap.size < w1.heap.size := by omega
         have hz1b : w.heap.size + 1 < w1.heap.size := by omega
         have HB1 := Lib.hid ((below_drewN (below3 w _ _ _) _).trans (hb1.mono (by simp; omega)))
         have HG1 := Lib.hid (And.intro (hb1.block w.heap.size (by simp; omega)) (And.intro (hb1.block (w.heap.size + 1) (by simp)) (hb1.block (w.heap.size + 2) (by simp)))))
      | (with_reducible refine (hbb _).mono ?_
         rintro e w2 ⟨rfl, hb2⟩
         obtain ⟨hc2, hf2⟩ := bcell hb2
         have hz2 : w.heap.size + 2 < w2.heap.size := by have := hb2.size; omega
         have HB2 := Lib.hid (HB1.out.trans (hb2.mono (Nat.le_of_lt hz1a)))
         have HG2 := Lib.hid (And.intro (((hb2.block w.heap.size hz1a).trans HG1.out.1).trans (new3 w _ _ _).1) (And.intro (((hb2.block (w.heap.size + 1) hz1b).trans HG1.out.2.1).trans (new3 w _ _ _).2.1) (((hb2.block (w.heap.size + 2) hz1).trans HG1.out.2.2).trans (new3 w _ _ _).2.2)))))))
    all_goals (go_wp2_with fail; go_meet; exact gcdS_store HG2.out.1 HG2.out.2.1 HG2.out.2.2 HB2.out)
  case rest =>
    clear haa hbb
    have HC := Lib.hid hcut
    clear hcut
    go_wp2
    go_loopg [14] 0 (fun _ _ wr => GcdS w.heap.size w wr x y)
    case atStart => exact HC.out
    case round =>
      clear HC
      have HC := Lib.hid hrel
      obtain ⟨c0, c1, c2, -⟩ := Cells.of hrel.hb
      clear hrel
      have hiz := isZero_any _ _ wr (small_iv wr hsb)
      unfold smallV at hiz
      go_wp2_with fail
      refine hiz.mono ?_
      rintro e w3 ⟨rfl, hb3⟩
      have HC3 := Lib.hid (HC.out.far hb3 rfl)
      clear hiz hb3 c0 c1 c2 HC
      obtain ⟨a0, a1, a2, -⟩ := Cells.of HC3.out.ha
      obtain ⟨b0, b1, b2, -⟩ := Cells.of HC3.out.hb
      obtain ⟨r0, r1, r2, f0, f1, f2⟩ := Cells.of HC3.out.hr
      by_cases hy : y = 0
      · subst hy
        go_wp2
        rw [Nat.gcd_zero_right]
        exact end_int Tryz.results97 rfl rfl HC3.out.hr (small_iv _ (by unfold Small; omega)) HC3.out.bel (by omega)
      · have hyb : decide ((y : Int) = 0) = false := by simpa using hy
        go_wp2
        go_quiet (fail)
        go_wp2
        go_loopw [5, 6] (fun s t wr => ∃ p q : Nat, s = .int .i64 p ∧ t = .int .i64 q ∧ Nat.gcd p q = Nat.gcd x y ∧ (p : Int) ≤ 9223372036854775807 ∧ (q : Int) ≤ 9223372036854775807 ∧ GcdS w.heap.size w wr x y) (fun _ t _ => (intOf t).toNat)
        case atStart => exact ⟨x, y, rfl, rfl, rfl, hxm, hym, HC3.out.drewN _⟩
        case round =>
          clear a0 a1 a2 b0 b1 b2 r0 r1 r2 f0 f1 f2 HC3
          obtain ⟨p, q, rfl, rfl, hg, hp, hq, hc⟩ := hrel
          have HG := Lib.hid hg
          have HC4 := Lib.hid hc
          obtain ⟨r0, r1, r2, f0, f1, f2⟩ := Cells.of hc.hr
          clear hg hc
          by_cases hq0 : q = 0
          · subst hq0
            have HP : Hid (p = Nat.gcd x y) := Lib.hid (by rw [← HG.out, Nat.gcd_zero_right])
            go_wp2
            rw [← HP.out]
            exact end_int Tryz.results97 rfl rfl HC4.out.hr (small_iv _ (by unfold Small; omega)) HC4.out.bel (by omega)
          · have hqb : ((q : Int) != 0) = true := by simp; omega
            have hqe : ((q : Int) == 0) = false := by simp; omega
            have hp0 : (0 : Int) ≤ (p : Int) := by omega
            have hq1 : (0 : Int) < (q : Int) := by omega
            have hlt : p % q < q := Nat.mod_lt _ (by omega)
            have hpq : (p : Int) % (q : Int) = ((p % q : Nat) : Int) := rfl
            have HR : Hid (Nat.gcd q (p % q) = Nat.gcd x y) := Lib.hid (by rw [← HG.out, Nat.gcd_comm p q, Nat.gcd_rec q p, Nat.gcd_comm])
            have hpt : (p : Int).tmod (q : Int) = ((p % q : Nat) : Int) := rfl
            generalize p % q = r at *
            go_wp2
            go_quiet (fail)
            go_wp2
            go_roundw
            case rel => exact ⟨q, r, rfl, rfl, HR.out, hq, by omega, HC4.out.drewN _⟩
            case measure => simp [intOf]; omega
end
end Go.Proofs.YtgehimcngljmnaaGreatDoor

/- number.Valid; number.integers, divide, Quo, Rem at integers. -/
import Derived.Test.YtgehimcngljmnaaGreatDoorAQ
namespace Go.Proofs.YtgehimcngljmnaaGreatDoor
open Go.RowKit Nmx

theorem end_iib {fn : Func} {t t' t2 : Tmp} {bb : Bool} {Q : Ending → World → Prop} {a : Act} {w w2 : World} {R R' : Nat} {z z' s s' : Int} {b b' : Bool} {ao ao' : Option Addr} {n c n' c' : Nat} {x0 x1 x2 y0 y1 y2 : Value} (hres : fn.results = #[.cell t 58, .cell t' 58, .tmp t2]) (hd : a.defers = [])
    (ht : a.tmps.getD t undef = .pointer (some ⟨R, 0, none⟩)) (ht' : a.tmps.getD t' undef = .pointer (some ⟨R', 0, none⟩)) (ht2 : a.tmps.getD t2 undef = .bool bb)
    (hR : w2.heap[R]? = some (.cells #[x0, x1, x2] 58 (0, 0))) (hR' : w2.heap[R']? = some (.cells #[y0, y1, y2] 58 (0, 0))) (hne : R ≠ R')
    (hv : IV w2 (.agg #[.int .i64 s, .bool b, .slice ao n c]) z) (hv' : IV w2 (.agg #[.int .i64 s', .bool b', .slice ao' n' c']) z') (hb : Below w.heap.size w w2) (hRB : w.heap.size ≤ R) (hRB' : w.heap.size ≤ R')
    (hQ : ∀ w3 v v', IV w3 v z → IV w3 v' z' → Below w.heap.size w w3 → Q (.returned (.tuple #[v, v', .bool bb])) w3) :
    bodyPost Tryz.prog fn Q .ret a ((((((w2.setCell ⟨R, 0, none⟩ (.int .i64 s)).setCell ⟨R, 1, none⟩ (.bool b)).setCell ⟨R, 2, none⟩ (.slice ao n c)).setCell ⟨R', 0, none⟩ (.int .i64 s')).setCell ⟨R', 1, none⟩ (.bool b')).setCell ⟨R', 2, none⟩ (.slice ao' n' c')) := by
  have h3 := heap_set (heap_set (heap_set hR 0 (.int .i64 s)) 1 (.bool b)) 2 (.slice ao n c)
  have hiv := hv.set3 hR (.int .i64 s) (.bool b) (.slice ao n c)
  have hiv' := hv'.set3 hR (.int .i64 s) (.bool b) (.slice ao n c)
  have hR2 : (set3 w2 R (.int .i64 s) (.bool b) (.slice ao n c)).heap[R']? = some (.cells #[y0, y1, y2] 58 (0, 0)) := by
    unfold set3
    rw [Below.heap_setCell _ _ _ _ (Ne.symm hne), Below.heap_setCell _ _ _ _ (Ne.symm hne), Below.heap_setCell _ _ _ _ (Ne.symm hne)]
    exact hR'
  have hbl := ((hb.setCell (show w.heap.size ≤ (⟨R, 0, none⟩ : Addr).block from hRB) (.int .i64 s)).setCell (show w.heap.size ≤ (⟨R, 1, none⟩ : Addr).block from hRB) (.bool b)).setCell (show w.heap.size ≤ (⟨R, 2, none⟩ : Addr).block from hRB) (.slice ao n c)
  unfold set3 at hiv hiv' hR2
  generalize ((w2.setCell ⟨R, 0, none⟩ (.int .i64 s)).setCell ⟨R, 1, none⟩ (.bool b)).setCell ⟨R, 2, none⟩ (.slice ao n c) = w3 at *
  have g3 := heap_set (heap_set (heap_set hR2 0 (.int .i64 s')) 1 (.bool b')) 2 (.slice ao' n' c')
  have giv := hiv.set3 hR2 (.int .i64 s') (.bool b') (.slice ao' n' c')
  have giv' := hiv'.set3 hR2 (.int .i64 s') (.bool b') (.slice ao' n' c')
  have h4 : (set3 w3 R' (.int .i64 s') (.bool b') (.slice ao' n' c')).heap[R]? = w3.heap[R]? := by
    unfold set3
    rw [Below.heap_setCell _ _ _ _ hne, Below.heap_setCell _ _ _ _ hne, Below.heap_setCell _ _ _ _ hne]
  rw [h3] at h4
  have gbl := ((hbl.setCell (show w.heap.size ≤ (⟨R', 0, none⟩ : Addr).block from hRB') (.int .i64 s')).setCell (show w.heap.size ≤ (⟨R', 1, none⟩ : Addr).block from hRB') (.bool b')).setCell (show w.heap.size ≤ (⟨R', 2, none⟩ : Addr).block from hRB') (.slice ao' n' c')
  unfold set3 at giv giv' h4
  generalize ((w3.setCell ⟨R', 0, none⟩ (.int .i64 s')).setCell ⟨R', 1, none⟩ (.bool b')).setCell ⟨R', 2, none⟩ (.slice ao' n' c') = w4 at *
  have k0 := heap_cell h4 0
  have k1 := heap_cell h4 1
  have k2 := heap_cell h4 2
  have l0 := heap_cell g3 0
  have l1 := heap_cell g3 1
  have l2 := heap_cell g3 2
  simp at k0 k1 k2 l0 l1 l2
  refine bodyPost_ret (v := .tuple #[.agg #[.int .i64 s, .bool b, .slice ao n c], .agg #[.int .i64 s', .bool b', .slice ao' n' c'], .bool bb]) ?_ hd (hQ w4 _ _ giv giv' gbl)
  have ht1 : a.tmps[t]?.getD undef = .pointer (some ⟨R, 0, none⟩) := by simpa using ht
  have ht2' : a.tmps[t']?.getD undef = .pointer (some ⟨R', 0, none⟩) := by simpa using ht'
  have ht3 : a.tmps[t2]?.getD undef = .bool bb := by simpa using ht2
  simp [results, hres, go_sem, ht1, ht2', ht3, k0, k1, k2, l0, l1, l2]

/-- two rational numbers in blocks G and G + 1, two results in blocks B and B + 1 -/
structure IntsS (w wx : World) (G : Nat) (x0 x1 x2 x3 x4 x5 y0 y1 y2 y3 y4 y5 : Value) : Prop where
  ha : wx.heap[G]? = some (.cells #[x0, x1, x2, x3, x4, x5] 63 (0, 0))
  hb : wx.heap[G + 1]? = some (.cells #[y0, y1, y2, y3, y4, y5] 63 (0, 0))
  r1 : wx.heap[w.heap.size]? = some (.cells #[.int .i64 0, .bool false, .slice none 0 0] 58 (0, 0))
  r2 : wx.heap[w.heap.size + 1]? = some (.cells #[.int .i64 0, .bool false, .slice none 0 0] 58 (0, 0))
  bel : Below w.heap.size w wx
theorem IntsS.far {w wx w1 : World} {G : Nat} {x0 x1 x2 x3 x4 x5 y0 y1 y2 y3 y4 y5 : Value} (h : IntsS w wx G x0 x1 x2 x3 x4 x5 y0 y1 y2 y3 y4 y5) (hb : Below wx.heap.size wx w1) : IntsS w w1 G x0 x1 x2 x3 x4 x5 y0 y1 y2 y3 y4 y5 :=
  ⟨(hb.block _ (lt_of_heap h.ha)).trans h.ha, (hb.block _ (lt_of_heap h.hb)).trans h.hb, (hb.block _ (lt_of_heap h.r1)).trans h.r1, (hb.block _ (lt_of_heap h.r2)).trans h.r2, h.bel.trans (hb.mono h.bel.size)⟩
theorem IntsS.drew {w wx : World} {G : Nat} {x0 x1 x2 x3 x4 x5 y0 y1 y2 y3 y4 y5 : Value} (h : IntsS w wx G x0 x1 x2 x3 x4 x5 y0 y1 y2 y3 y4 y5) : IntsS w wx.drew G x0 x1 x2 x3 x4 x5 y0 y1 y2 y3 y4 y5 := ⟨h.ha, h.hb, h.r1, h.r2, h.bel.drew⟩
theorem IntsS.cells {w wx : World} {G : Nat} {x0 x1 x2 x3 x4 x5 y0 y1 y2 y3 y4 y5 : Value} (h : IntsS w wx G x0 x1 x2 x3 x4 x5 y0 y1 y2 y3 y4 y5) : wx.cell? ⟨G, 0, none⟩ = some x0 ∧ wx.cell? ⟨G, 1, none⟩ = some x1 ∧ wx.cell? ⟨G, 2, none⟩ = some x2 ∧ wx.cell? ⟨G, 3, none⟩ = some x3 ∧ wx.cell? ⟨G, 4, none⟩ = some x4 ∧ wx.cell? ⟨G, 5, none⟩ = some x5 ∧ wx.cell? ⟨G + 1, 0, none⟩ = some y0 ∧ wx.cell? ⟨G + 1, 1, none⟩ = some y1 ∧ wx.cell? ⟨G + 1, 2, none⟩ = some y2 ∧ wx.cell? ⟨G + 1, 3, none⟩ = some y3 ∧ wx.cell? ⟨G + 1, 4, none⟩ = some y4 ∧ wx.cell? ⟨G + 1, 5, none⟩ = some y5 :=
  ⟨heap_cell h.ha 0, heap_cell h.ha 1, heap_cell h.ha 2, heap_cell h.ha 3, heap_cell h.ha 4, heap_cell h.ha 5, heap_cell h.hb 0, heap_cell h.hb 1, heap_cell h.hb 2, heap_cell h.hb 3, heap_cell h.hb 4, heap_cell h.hb 5⟩
def IntsPost (za zb : Int) (w : World) (e : Ending) (w' : World) : Prop := ∃ v1 v2, e = .returned (.tuple #[v1, v2, .bool true]) ∧ IV w' v1 za ∧ IV w' v2 zb ∧ Below w.heap.size w w'
section
set_option maxRecDepth 100000
set_option maxHeartbeats 4000000
theorem numValid_any (s : ByteArray) (w : World) (hs : s.size ≤ 1000000) (h : Env w) (hg : GcdAt s.data.toList) : Calls Tryz.prog 49 #[.string s] w fun e w' => e = .returned (.bool (ratF s.data.toList).isSome) ∧ Below w.heap.size w w' := by
  have hp := parse_env s w hs h hg
  unfold ParsePost at hp
  generalize ratF s.data.toList = oq at *
  go_enter Tryz.func49, Tryz.ntmps49
  go_wp2_with fail
  refine hp.mono ?_
  rintro e w1 ⟨v, rfl, hv, hb1⟩
  obtain ⟨s1, b1, a1, n1, c1, s2, b2, a2, n2, c2, rfl, -, -⟩ := rv_form hv
  have HB := Lib.hid hb1
  clear hv hp hb1
  go_wp2
  go_ret
  exact ⟨rfl, HB.out.alloc HB.out.size _⟩
theorem integers_int (s t : ByteArray) (za zb : Int) (w : World) (hs : s.size ≤ 1000000) (ht : t.size ≤ 1000000) (h : Env w) (hp : ratF s.data.toList = some (za : Rat)) (hq : ratF t.data.toList = some (zb : Rat)) (hg : GcdAt s.data.toList) (hg' : GcdAt t.data.toList) :
    Calls Tryz.prog 96 #[.string s, .string t] w (IntsPost za zb w) := by
  have HB00 := Lib.hid (below2 w (.cells #[.int .i64 0, .bool false, .slice none 0 0] 58) (.cells #[.int .i64 0, .bool false, .slice none 0 0] 58))
  have hpa := pair_any s t _ hs ht (h.far HB00.out) hg hg'
  rw [hp, hq] at hpa
  have HN1 : Hid ((w.alloc (.cells #[.int .i64 0, .bool false, .slice none 0 0] 58)).alloc (.cells #[.int .i64 0, .bool false, .slice none 0 0] 58) |>.heap[w.heap.size]? = some (.cells #[.int .i64 0, .bool false, .slice none 0 0] 58 (0, 0))) := Lib.hid ((Below.heap_alloc _ _ _ (by simp)).trans (heap_alloc_new w _))
  have HN2 := Lib.hid (new_second w (.cells #[.int .i64 0, .bool false, .slice none 0 0] 58) (.cells #[.int .i64 0, .bool false, .slice none 0 0] 58))
  clear h hg hg' hp hq hs ht
  go_enter Tryz.func96, Tryz.ntmps96
  go_wp2_with fail
  refine hpa.mono ?_
  rintro e w1 ⟨v1, v2, rfl, hv1, hv2, hb1⟩
  have hnx := fun W (hW : Below w1.heap.size w1 W) => ratNum_any v1 (za : Rat) W (RV.far hv1 hW)
  have hny := fun W (hW : Below w1.heap.size w1 W) => ratNum_any v2 (zb : Rat) W (RV.far hv2 hW)
  have hix := fun W (hW : Below w1.heap.size w1 W) => ratIsInt_any v1 (za : Rat) W (RV.far hv1 hW)
  have hiy := fun W (hW : Below w1.heap.size w1 W) => ratIsInt_any v2 (zb : Rat) W (RV.far hv2 hW)
  simp only [Rat.num_intCast, Rat.den_intCast, decide_true] at hnx hny hix hiy
  obtain ⟨s1, b1, a1, n1, c1, s2, b2, a2, n2, c2, rfl, -, -⟩ := rv_form hv1
  obtain ⟨s3, b3, a3, n3, c3, s4, b4, a4, n4, c4, rfl, -, -⟩ := rv_form hv2
  have hsz := hb1.size
  have HBX := Lib.hid (below2 w1 (.cells #[.int .i64 s1, .bool b1, .slice a1 n1 c1, .int .i64 s2, .bool b2, .slice a2 n2 c2] 63) (.cells #[.int .i64 s3, .bool b3, .slice a3 n3 c3, .int .i64 s4, .bool b4, .slice a4 n4 c4] 63))
  have HI0 : Hid (IntsS w ((w1.alloc (.cells #[.int .i64 s1, .bool b1, .slice a1 n1 c1, .int .i64 s2, .bool b2, .slice a2 n2 c2] 63)).alloc (.cells #[.int .i64 s3, .bool b3, .slice a3 n3 c3, .int .i64 s4, .bool b4, .slice a4 n4 c4] 63)) w1.heap.size (.int .i64 s1) (.bool b1) (.slice a1 n1 c1) (.int .i64 s2) (.bool b2) (.slice a2 n2 c2) (.int .i64 s3) (.bool b3) (.slice a3 n3 c3) (.int .i64 s4) (.bool b4) (.slice a4 n4 c4)) := Lib.hid
    ⟨(Below.heap_alloc _ _ _ (by simp)).trans (heap_alloc_new w1 _), new_second w1 _ _, (HBX.out.block _ (by simp at hsz; omega)).trans ((hb1.block _ (by simp; omega)).trans HN1.out), (HBX.out.block _ (by simp at hsz; omega)).trans ((hb1.block _ (by simp)).trans HN2.out), (HB00.out.trans (hb1.mono (by simp; omega))).trans (HBX.out.mono (by simp at hsz; omega))⟩
  clear hv1 hv2 hb1 hpa HN1 HN2
  have hlt : w.heap.size + 1 < w1.heap.size := by simp at hsz; omega
  have HBY := HBX
  generalize hG : w1.heap.size = G at *
  go_wp2
  try rw [hG]
  generalize (w1.alloc (.cells #[.int .i64 s1, .bool b1, .slice a1 n1 c1, .int .i64 s2, .bool b2, .slice a2 n2 c2] 63)).alloc (.cells #[.int .i64 s3, .bool b3, .slice a3 n3 c3, .int .i64 s4, .bool b4, .slice a4 n4 c4] 63) = wx at *
  have K0 := Lib.hid HI0.out.drew.cells
  have B0 : Hid (Below G w1 wx.drew) := Lib.hid HBX.out.drew
  have HSZ := Lib.hid hG
  go_region_held3 (fun w' => w'.cell? ⟨G, 0, none⟩ = some (.int .i64 s1) ∧ w'.cell? ⟨G, 1, none⟩ = some (.bool b1) ∧ w'.cell? ⟨G, 2, none⟩ = some (.slice a1 n1 c1) ∧ w'.cell? ⟨G, 3, none⟩ = some (.int .i64 s2) ∧ w'.cell? ⟨G, 4, none⟩ = some (.bool b2) ∧ w'.cell? ⟨G, 5, none⟩ = some (.slice a2 n2 c2) ∧ w'.cell? ⟨G + 1, 0, none⟩ = some (.int .i64 s3) ∧ w'.cell? ⟨G + 1, 1, none⟩ = some (.bool b3) ∧ w'.cell? ⟨G + 1, 2, none⟩ = some (.slice a3 n3 c3) ∧ w'.cell? ⟨G + 1, 3, none⟩ = some (.int .i64 s4) ∧ w'.cell? ⟨G + 1, 4, none⟩ = some (.bool b4) ∧ w'.cell? ⟨G + 1, 5, none⟩ = some (.slice a4 n4 c4))
        (first | with_reducible exact K4.out | with_reducible exact K3.out | with_reducible exact K2.out | with_reducible exact K1.out | with_reducible exact K0.out | (obtain ⟨k0, k1, k2, k3, k4, k5, l0, l1, l2, l3, l4, l5⟩ := K4.out; exact ⟨(cell_set3 (by omega) _ _ _ 0).trans k0, (cell_set3 (by omega) _ _ _ 1).trans k1, (cell_set3 (by omega) _ _ _ 2).trans k2, (cell_set3 (by omega) _ _ _ 3).trans k3, (cell_set3 (by omega) _ _ _ 4).trans k4, (cell_set3 (by omega) _ _ _ 5).trans k5, (cell_set3 (by omega) _ _ _ 0).trans l0, (cell_set3 (by omega) _ _ _ 1).trans l1, (cell_set3 (by omega) _ _ _ 2).trans l2, (cell_set3 (by omega) _ _ _ 3).trans l3, (cell_set3 (by omega) _ _ _ 4).trans l4, (cell_set3 (by omega) _ _ _ 5).trans l5⟩) | (obtain ⟨k0, k1, k2, k3, k4, k5, l0, l1, l2, l3, l4, l5⟩ := K4.out; exact ⟨(cell_set3 (by omega) _ _ _ 0).trans ((cell_set3 (by omega) _ _ _ 0).trans k0), (cell_set3 (by omega) _ _ _ 1).trans ((cell_set3 (by omega) _ _ _ 1).trans k1), (cell_set3 (by omega) _ _ _ 2).trans ((cell_set3 (by omega) _ _ _ 2).trans k2), (cell_set3 (by omega) _ _ _ 3).trans ((cell_set3 (by omega) _ _ _ 3).trans k3), (cell_set3 (by omega) _ _ _ 4).trans ((cell_set3 (by omega) _ _ _ 4).trans k4), (cell_set3 (by omega) _ _ _ 5).trans ((cell_set3 (by omega) _ _ _ 5).trans k5), (cell_set3 (by omega) _ _ _ 0).trans ((cell_set3 (by omega) _ _ _ 0).trans l0), (cell_set3 (by omega) _ _ _ 1).trans ((cell_set3 (by omega) _ _ _ 1).trans l1), (cell_set3 (by omega) _ _ _ 2).trans ((cell_set3 (by omega) _ _ _ 2).trans l2), (cell_set3 (by omega) _ _ _ 3).trans ((cell_set3 (by omega) _ _ _ 3).trans l3), (cell_set3 (by omega) _ _ _ 4).trans ((cell_set3 (by omega) _ _ _ 4).trans l4), (cell_set3 (by omega) _ _ _ 5).trans ((cell_set3 (by omega) _ _ _ 5).trans l5)⟩))
        (first
          | (go_at_call 76
             first
          | (with_reducible refine (hnx _ B0.out).mono ?_
             rintro e u1 ⟨v1, rfl, hv1, hb1⟩
             have T1 := Lib.hid (HI0.out.drew.far hb1)
             have K1 := Lib.hid T1.out.cells
             have B1 := Lib.hid (B0.out.trans (hb1.mono (by have h := B0.out.size; omega)))
             have V1 := Lib.hid hv1
             obtain ⟨e1a, e1b, e1c, e1d, e1f, rfl⟩ := iv_form hv1)
          | (with_reducible refine (hny _ B1.out).mono ?_
             rintro e u2 ⟨v2, rfl, hv2, hb2⟩
             have T2 := Lib.hid (T1.out.far hb2)
             have K2 := Lib.hid T2.out.cells
             have B2 := Lib.hid (B1.out.trans (hb2.mono (by have h := B1.out.size; omega)))
             have V2 := Lib.hid hv2
             have V1a := Lib.hid (V1.out.far hb2)
             obtain ⟨e2a, e2b, e2c, e2d, e2f, rfl⟩ := iv_form hv2))
          | (go_at_call 75
             first
          | (with_reducible refine (hix _ B2.out).mono ?_
             rintro e u3 ⟨rfl, hb3⟩
             have T3 := Lib.hid (T2.out.far hb3)
             have K3 := Lib.hid T3.out.cells
             have B3 := Lib.hid (B2.out.trans (hb3.mono (by have h := B2.out.size; omega)))
             have V1b := Lib.hid (V1a.out.far hb3)
             have V2b := Lib.hid (V2.out.far hb3))
          | (with_reducible refine (hiy _ B3.out).mono ?_
             rintro e u4 ⟨rfl, hb4⟩
             have T4 := Lib.hid (T3.out.far hb4)
             have K4 := Lib.hid T4.out.cells
             have B4 := Lib.hid (B3.out.trans (hb4.mono (by have h := B3.out.size; omega)))
             have V1c := Lib.hid (V1b.out.far hb4)
             have V2c := Lib.hid (V2b.out.far hb4)
             obtain ⟨r0, r1, r2, f0, f1, f2⟩ := Res.cells T4.out.r1
             obtain ⟨p0, p1, p2, g0, g1, g2⟩ := Res.cells T4.out.r2)))
  go_wp2
  exact end_iib Tryz.results96 rfl rfl rfl rfl T4.out.r1 T4.out.r2 (by omega) V1c.out V2c.out T4.out.bel (Nat.le_refl _) (by omega) (fun w3 v v' h1 h2 h3 => ⟨v, v', rfl, h1, h2, h3⟩)
def QRAt (za zb : Int) : Prop := ∀ x y W, IV W x za → IV W y zb → Calls Tryz.prog 99 #[x, y] W (QRPost za zb W)
theorem divide_int (s t : ByteArray) (za zb : Int) (w : World) (hs : s.size ≤ 1000000) (ht : t.size ≤ 1000000) (h : Env w) (hp : ratF s.data.toList = some (za : Rat)) (hq : ratF t.data.toList = some (zb : Rat)) (hg : GcdAt s.data.toList) (hg' : GcdAt t.data.toList) (h0 : zb ≠ 0) (hqr : QRAt za zb) :
    Calls Tryz.prog 94 #[.string s, .string t] w fun e w' => e = .returned (.tuple #[.string ⟨(decI (za / zb)).toArray⟩, .string ⟨(decI (za % zb)).toArray⟩]) ∧ Below w.heap.size w w' := by
  have hin := integers_int s t za zb w hs ht h hp hq hg hg'
  have HE := Lib.hid h
  have HQR := Lib.hid hqr
  have hzb : decide (zb = 0) = false := decide_eq_false h0
  clear h hg hg' hp hq hs ht hqr
  go_enter Tryz.func94, Tryz.ntmps94
  go_wp2_with fail
  refine hin.mono ?_
  rintro e w1 ⟨v1, v2, rfl, hv1, hv2, hb1⟩
  have hiz := fun W (hW : Below w1.heap.size w1 W) => isZero_any v2 zb W (hv2.far hW)
  rw [hzb] at hiz
  have hqq := fun W (hW : Below w1.heap.size w1 W) => HQR.out v1 v2 W (hv1.far hW) (hv2.far hW)
  have HB1 := Lib.hid hb1
  obtain ⟨s1, b1, a1, n1, c1, rfl⟩ := iv_form hv1
  obtain ⟨s2, b2, a2, n2, c2, rfl⟩ := iv_form hv2
  have HB2 := Lib.hid (below2 w1 (.cells #[.int .i64 s1, .bool b1, .slice a1 n1 c1] 58) (.cells #[.int .i64 s2, .bool b2, .slice a2 n2 c2] 58))
  have HX1 : Hid (((w1.alloc (.cells #[.int .i64 s1, .bool b1, .slice a1 n1 c1] 58)).alloc (.cells #[.int .i64 s2, .bool b2, .slice a2 n2 c2] 58)).heap[w1.heap.size]? = some (.cells #[.int .i64 s1, .bool b1, .slice a1 n1 c1] 58 (0, 0))) := Lib.hid ((Below.heap_alloc _ _ _ (by simp)).trans (heap_alloc_new w1 _))
  have HX2 := Lib.hid (new_second w1 (.cells #[.int .i64 s1, .bool b1, .slice a1 n1 c1] 58) (.cells #[.int .i64 s2, .bool b2, .slice a2 n2 c2] 58))
  have hiz0 := hiz _ HB2.out
  clear hv1 hv2 hb1 hin hiz
  go_wp2_with fail
  refine hiz0.mono ?_
  rintro e w2 ⟨rfl, hb2⟩
  have HY1 := Lib.hid ((hb2.block _ (lt_of_heap HX1.out)).trans HX1.out)
  have HY2 := Lib.hid ((hb2.block _ (lt_of_heap HX2.out)).trans HX2.out)
  have HB3 := Lib.hid (HB2.out.trans (hb2.mono HB2.out.size))
  have hqq0 := hqq _ HB3.out
  obtain ⟨k0, k1, k2, -⟩ := Cells.of HY1.out
  obtain ⟨l0, l1, l2, -⟩ := Cells.of HY2.out
  clear hiz0 hb2 HX1 HX2 HB2 hqq
  go_wp2_with fail
  refine hqq0.mono ?_
  rintro e w3 ⟨v3, v4, rfl, hv3, hv4, hb3⟩
  have HB4 := Lib.hid (HB1.out.trans ((HB3.out.trans (hb3.mono HB3.out.size)).mono HB1.out.size))
  have HV3 := Lib.hid hv3
  have HV4 := Lib.hid hv4
  obtain ⟨s3, b3, a3, n3, c3, rfl⟩ := iv_form hv3
  obtain ⟨s4, b4, a4, n4, c4, rfl⟩ := iv_form hv4
  have HB5 := Lib.hid (below2 w3 (.cells #[.int .i64 s3, .bool b3, .slice a3 n3 c3] 58) (.cells #[.int .i64 s4, .bool b4, .slice a4 n4 c4] 58))
  have HZ1 : Hid (((w3.alloc (.cells #[.int .i64 s3, .bool b3, .slice a3 n3 c3] 58)).alloc (.cells #[.int .i64 s4, .bool b4, .slice a4 n4 c4] 58)).heap[w3.heap.size]? = some (.cells #[.int .i64 s3, .bool b3, .slice a3 n3 c3] 58 (0, 0))) := Lib.hid ((Below.heap_alloc _ _ _ (by simp)).trans (heap_alloc_new w3 _))
  have HZ2 := Lib.hid (new_second w3 (.cells #[.int .i64 s3, .bool b3, .slice a3 n3 c3] 58) (.cells #[.int .i64 s4, .bool b4, .slice a4 n4 c4] 58))
  have hst1 := fun W (hW : Below w3.heap.size w3 W) => strAt_any (za / zb) _ W (HE.out.far (HB4.out.trans (hW.mono HB4.out.size))) (HV3.out.far hW)
  have hst2 := fun W (hW : Below w3.heap.size w3 W) => strAt_any (za % zb) _ W (HE.out.far (HB4.out.trans (hW.mono HB4.out.size))) (HV4.out.far hW)
  clear hv3 hv4 hb3 hqq0 k0 k1 k2 l0 l1 l2 HY1 HY2
  go_wp2
  generalize (w3.alloc (.cells #[.int .i64 s3, .bool b3, .slice a3 n3 c3] 58)).alloc (.cells #[.int .i64 s4, .bool b4, .slice a4 n4 c4] 58) = wx at *
  have KB := Lib.hid HB5.out.drew
  have K0 : Hid (Two wx.drew w3.heap.size (w3.heap.size + 1) (.int .i64 s3) (.bool b3) (.slice a3 n3 c3) (.int .i64 s4) (.bool b4) (.slice a4 n4 c4)) := Lib.hid ⟨heap_cell HZ1.out 0, heap_cell HZ1.out 1, heap_cell HZ1.out 2, heap_cell HZ2.out 0, heap_cell HZ2.out 1, heap_cell HZ2.out 2⟩
  have hl1 := lt_of_heap HZ1.out
  have hl2 := lt_of_heap HZ2.out
  go_region_held3 (fun w' => w'.cell? ⟨w3.heap.size, 0, none⟩ = some (.int .i64 s3) ∧ w'.cell? ⟨w3.heap.size, 1, none⟩ = some (.bool b3) ∧ w'.cell? ⟨w3.heap.size, 2, none⟩ = some (.slice a3 n3 c3) ∧ w'.cell? ⟨w3.heap.size + 1, 0, none⟩ = some (.int .i64 s4) ∧ w'.cell? ⟨w3.heap.size + 1, 1, none⟩ = some (.bool b4) ∧ w'.cell? ⟨w3.heap.size + 1, 2, none⟩ = some (.slice a4 n4 c4))
    (first | exact K0.out | exact K1.out | exact K2.out)
    (first
      | (go_at_call 73
         first
         | (with_reducible refine (hst1 _ KB.out).mono ?_
            rintro e u1 ⟨rfl, hb5⟩
            have K1 := Lib.hid (Two.far (show Below wx.drew.heap.size wx.drew u1 from hb5) hl1 hl2 K0.out)
            have KB1 := Lib.hid (KB.out.trans (hb5.mono KB.out.size))
            have hb5s := hb5.size)
         | (with_reducible refine (hst2 _ KB1.out).mono ?_
            rintro e u2 ⟨rfl, hb6⟩
            have K2 := Lib.hid (Two.far hb6 (Nat.lt_of_lt_of_le hl1 hb5s) (Nat.lt_of_lt_of_le hl2 hb5s) K1.out)
            have KB2 := Lib.hid (HB4.out.trans ((KB1.out.trans (hb6.mono KB1.out.size)).mono HB4.out.size)))))
  go_wp2
  go_ret2
  exact ⟨rfl, KB2.out⟩
theorem numQuo_int (s t : ByteArray) (za zb : Int) (w : World) (hs : s.size ≤ 1000000) (ht : t.size ≤ 1000000) (h : Env w) (hp : ratF s.data.toList = some (za : Rat)) (hq : ratF t.data.toList = some (zb : Rat)) (hg : GcdAt s.data.toList) (hg' : GcdAt t.data.toList) (h0 : zb ≠ 0) (hqr : QRAt za zb) :
    Calls Tryz.prog 36 #[.string s, .string t] w fun e w' => e = .returned (.string ⟨(decI (za / zb)).toArray⟩) ∧ Below w.heap.size w w' := by
  have hd := divide_int s t za zb w hs ht h hp hq hg hg' h0 hqr
  clear h hg hg' hp hq hs ht hqr
  go_enter Tryz.func36, Tryz.ntmps36
  go_wp2_with fail
  refine hd.mono ?_
  rintro e w1 ⟨rfl, hb1⟩
  go_wp2
  go_ret
  exact ⟨rfl, hb1⟩
theorem numRem_int (s t : ByteArray) (za zb : Int) (w : World) (hs : s.size ≤ 1000000) (ht : t.size ≤ 1000000) (h : Env w) (hp : ratF s.data.toList = some (za : Rat)) (hq : ratF t.data.toList = some (zb : Rat)) (hg : GcdAt s.data.toList) (hg' : GcdAt t.data.toList) (h0 : zb ≠ 0) (hqr : QRAt za zb) :
    Calls Tryz.prog 37 #[.string s, .string t] w fun e w' => e = .returned (.string ⟨(decI (za % zb)).toArray⟩) ∧ Below w.heap.size w w' := by
  have hd := divide_int s t za zb w hs ht h hp hq hg hg' h0 hqr
  clear h hg hg' hp hq hs ht hqr
  go_enter Tryz.func37, Tryz.ntmps37
  go_wp2_with fail
  refine hd.mono ?_
  rintro e w1 ⟨rfl, hb1⟩
  go_wp2
  go_ret
  exact ⟨rfl, hb1⟩
end
end Go.Proofs.YtgehimcngljmnaaGreatDoor

/- number.pair: two texts are read. -/
import Derived.Test.YtgehimcngljmnaaGreatDoorAA
import Derived.StillTailTactics
namespace Go.Proofs.YtgehimcngljmnaaGreatDoor
open Go.RowKit Nmx

theorem cell_set6 {w : World} {R g : Nat} (h : g ≠ R) (x0 x1 x2 x3 x4 x5 : Value) (i : Nat) : ((((((w.setCell ⟨R, 0, none⟩ x0).setCell ⟨R, 1, none⟩ x1).setCell ⟨R, 2, none⟩ x2).setCell ⟨R, 3, none⟩ x3).setCell ⟨R, 4, none⟩ x4).setCell ⟨R, 5, none⟩ x5).cell? ⟨g, i, none⟩ = w.cell? ⟨g, i, none⟩ := by
  apply World.cell?_of_block
  exact set6_other h x0 x1 x2 x3 x4 x5
/-- a rational number in block g -/
def Six (w : World) (g : Nat) (x0 x1 x2 x3 x4 x5 : Value) : Prop := w.cell? ⟨g, 0, none⟩ = some x0 ∧ w.cell? ⟨g, 1, none⟩ = some x1 ∧ w.cell? ⟨g, 2, none⟩ = some x2 ∧ w.cell? ⟨g, 3, none⟩ = some x3 ∧ w.cell? ⟨g, 4, none⟩ = some x4 ∧ w.cell? ⟨g, 5, none⟩ = some x5
def Dozen (w : World) (g h : Nat) (x0 x1 x2 x3 x4 x5 y0 y1 y2 y3 y4 y5 : Value) : Prop :=
  w.cell? ⟨g, 0, none⟩ = some x0 ∧ w.cell? ⟨g, 1, none⟩ = some x1 ∧ w.cell? ⟨g, 2, none⟩ = some x2 ∧ w.cell? ⟨g, 3, none⟩ = some x3 ∧ w.cell? ⟨g, 4, none⟩ = some x4 ∧ w.cell? ⟨g, 5, none⟩ = some x5 ∧ w.cell? ⟨h, 0, none⟩ = some y0 ∧ w.cell? ⟨h, 1, none⟩ = some y1 ∧ w.cell? ⟨h, 2, none⟩ = some y2 ∧ w.cell? ⟨h, 3, none⟩ = some y3 ∧ w.cell? ⟨h, 4, none⟩ = some y4 ∧ w.cell? ⟨h, 5, none⟩ = some y5
theorem Dozen.of {w : World} {g h : Nat} {x0 x1 x2 x3 x4 x5 y0 y1 y2 y3 y4 y5 : Value} {t t' : TypeId} (h1 : w.heap[g]? = some (.cells #[x0, x1, x2, x3, x4, x5] t (0, 0))) (h2 : w.heap[h]? = some (.cells #[y0, y1, y2, y3, y4, y5] t' (0, 0))) : Dozen w g h x0 x1 x2 x3 x4 x5 y0 y1 y2 y3 y4 y5 :=
  ⟨heap_cell h1 0, heap_cell h1 1, heap_cell h1 2, heap_cell h1 3, heap_cell h1 4, heap_cell h1 5, heap_cell h2 0, heap_cell h2 1, heap_cell h2 2, heap_cell h2 3, heap_cell h2 4, heap_cell h2 5⟩
theorem Dozen.set {w : World} {g h R : Nat} {x0 x1 x2 x3 x4 x5 y0 y1 y2 y3 y4 y5 : Value} (k : Dozen w g h x0 x1 x2 x3 x4 x5 y0 y1 y2 y3 y4 y5) (hg : g ≠ R) (hh : h ≠ R) (z0 z1 z2 z3 z4 z5 : Value) :
    Dozen ((((((w.setCell ⟨R, 0, none⟩ z0).setCell ⟨R, 1, none⟩ z1).setCell ⟨R, 2, none⟩ z2).setCell ⟨R, 3, none⟩ z3).setCell ⟨R, 4, none⟩ z4).setCell ⟨R, 5, none⟩ z5) g h x0 x1 x2 x3 x4 x5 y0 y1 y2 y3 y4 y5 := by
  obtain ⟨k0, k1, k2, k3, k4, k5, l0, l1, l2, l3, l4, l5⟩ := k
  exact ⟨(cell_set6 hg _ _ _ _ _ _ 0).trans k0, (cell_set6 hg _ _ _ _ _ _ 1).trans k1, (cell_set6 hg _ _ _ _ _ _ 2).trans k2, (cell_set6 hg _ _ _ _ _ _ 3).trans k3, (cell_set6 hg _ _ _ _ _ _ 4).trans k4, (cell_set6 hg _ _ _ _ _ _ 5).trans k5,
    (cell_set6 hh _ _ _ _ _ _ 0).trans l0, (cell_set6 hh _ _ _ _ _ _ 1).trans l1, (cell_set6 hh _ _ _ _ _ _ 2).trans l2, (cell_set6 hh _ _ _ _ _ _ 3).trans l3, (cell_set6 hh _ _ _ _ _ _ 4).trans l4, (cell_set6 hh _ _ _ _ _ _ 5).trans l5⟩
theorem RV.heap_same {w w' : World} {v : Value} {q : Rat} (h : RV w v q) {R : Nat} {cs : Array Value} {t : TypeId} {fr : Nat × Nat} (hR : w.heap[R]? = some (.cells cs t fr)) (ht : t ≠ 109) (ho : ∀ k, k ≠ R → w'.heap[k]? = w.heap[k]?) : RV w' v q :=
  let ⟨s1, b1, a1, n1, c1, s2, b2, a2, n2, c2, e, h1, h2⟩ := h
  ⟨s1, b1, a1, n1, c1, s2, b2, a2, n2, c2, e, h1.heap_same hR ht ho, h2.heap_same hR ht ho⟩

def PairPost (a b : Option Rat) (w : World) (e : Ending) (w' : World) : Prop := ∃ v1 v2, e = .returned (.tuple #[v1, v2, .bool (a.isSome && b.isSome)]) ∧ RV w' v1 (a.getD 0) ∧ RV w' v2 (b.getD 0) ∧ Below w.heap.size w w'
/-- both results lie in blocks R and R' -/
theorem end_pair {fn : Func} {t t' t2 : Tmp} {a : Act} {w w4 : World} {R R' : Nat} {x0 x1 x2 x3 x4 x5 y0 y1 y2 y3 y4 y5 : Value} {oa ob : Option Rat} (hres : fn.results = #[.cell t 63, .cell t' 63, .tmp t2]) (hd : a.defers = [])
    (ht : a.tmps.getD t undef = .pointer (some ⟨R, 0, none⟩)) (ht' : a.tmps.getD t' undef = .pointer (some ⟨R', 0, none⟩)) (ht2 : a.tmps.getD t2 undef = .bool (oa.isSome && ob.isSome))
    (h1 : w4.heap[R]? = some (.cells #[x0, x1, x2, x3, x4, x5] 63 (0, 0))) (h2 : w4.heap[R']? = some (.cells #[y0, y1, y2, y3, y4, y5] 63 (0, 0)))
    (hv : RV w4 (.agg #[x0, x1, x2, x3, x4, x5]) (oa.getD 0)) (hv' : RV w4 (.agg #[y0, y1, y2, y3, y4, y5]) (ob.getD 0)) (hb : Below w.heap.size w w4) : bodyPost Tryz.prog fn (PairPost oa ob w) .ret a w4 := by
  have k0 := heap_cell h1 0
  have k1 := heap_cell h1 1
  have k2 := heap_cell h1 2
  have k3 := heap_cell h1 3
  have k4 := heap_cell h1 4
  have k5 := heap_cell h1 5
  have l0 := heap_cell h2 0
  have l1 := heap_cell h2 1
  have l2 := heap_cell h2 2
  have l3 := heap_cell h2 3
  have l4 := heap_cell h2 4
  have l5 := heap_cell h2 5
  simp at k0 k1 k2 k3 k4 k5 l0 l1 l2 l3 l4 l5
  refine bodyPost_ret (v := .tuple #[.agg #[x0, x1, x2, x3, x4, x5], .agg #[y0, y1, y2, y3, y4, y5], .bool (oa.isSome && ob.isSome)]) ?_ hd ⟨_, _, rfl, hv, hv', hb⟩
  have g1 : a.tmps[t]?.getD undef = .pointer (some ⟨R, 0, none⟩) := by simpa using ht
  have g2 : a.tmps[t']?.getD undef = .pointer (some ⟨R', 0, none⟩) := by simpa using ht'
  have g3 : a.tmps[t2]?.getD undef = .bool (oa.isSome && ob.isSome) := by simpa using ht2
  simp [results, hres, go_sem, g1, g2, g3, k0, k1, k2, k3, k4, k5, l0, l1, l2, l3, l4, l5]

section
set_option maxRecDepth 100000
set_option maxHeartbeats 4000000
def ParseIs (s : ByteArray) (o : Option Rat) : Prop := ∀ W : World, Env W → Calls Tryz.prog 74 #[.string s] W fun e w' => ∃ v, e = .returned (.tuple #[v, .bool o.isSome]) ∧ RV w' v (o.getD 0) ∧ Below W.heap.size W w'
theorem pair_nn (s t : ByteArray) (w : World) (h : Env w) (hp : ParseIs s (none : Option Rat)) (hp' : ParseIs t (none : Option Rat)) : Calls Tryz.prog 78 #[.string s, .string t] w (PairPost (none : Option Rat) (none : Option Rat) w) := by
  have HB0 := Lib.hid (below2 w (.cells #[.int .i64 0, .bool false, .slice none 0 0, .int .i64 0, .bool false, .slice none 0 0] 63) (.cells #[.int .i64 0, .bool false, .slice none 0 0, .int .i64 0, .bool false, .slice none 0 0] 63))
  have HE := Lib.hid h
  clear h
  go_enter Tryz.func78, Tryz.ntmps78
  go_wp2_with fail
  refine (hp _ (HE.out.far HB0.out)).mono ?_
  rintro e w1 ⟨v1, rfl, hv1, hb1⟩
  have HV1 := Lib.hid hv1
  obtain ⟨s1, b1, a1, n1, c1, s2, b2, a2, n2, c2, rfl, -, -⟩ := rv_form hv1
  have HR1 := Lib.hid ((hb1.block w.heap.size (by simp; omega)).trans ((Below.heap_alloc _ _ _ (by simp)).trans (heap_alloc_new w _)))
  have HR2 := Lib.hid ((hb1.block (w.heap.size + 1) (by simp)).trans (new_second w _ _))
  have HB1 := Lib.hid (HB0.out.trans (hb1.mono (by simp; omega)))
  clear hb1 hv1 hp HB0
  have HBA := Lib.hid (HB1.out.alloc HB1.out.size (.cells #[.int .i64 s1, .bool b1, .slice a1 n1 c1, .int .i64 s2, .bool b2, .slice a2 n2 c2] 63))
  go_wp2_with fail
  refine (hp' _ (HE.out.far HBA.out)).mono ?_
  rintro e w2 ⟨v2, rfl, hv2, hb2⟩
  have HV2 := Lib.hid hv2
  obtain ⟨s3, b3, a3, n3, c3, s4, b4, a4, n4, c4, rfl, -, -⟩ := rv_form hv2
  have HA2 := Lib.hid ((hb2.block w1.heap.size (by simp)).trans (heap_alloc_new w1 _))
  have HV12 := Lib.hid ((HV1.out.far ((Below.refl _ _).alloc (Nat.le_refl _) _)).far hb2)
  have hl1 := lt_of_heap HR1.out
  have hl2 := lt_of_heap HR2.out
  have HR12 := Lib.hid ((hb2.block w.heap.size (by simp; omega)).trans ((Below.heap_alloc _ _ _ hl1).trans HR1.out))
  have HR22 := Lib.hid ((hb2.block (w.heap.size + 1) (by simp; omega)).trans ((Below.heap_alloc _ _ _ hl2).trans HR2.out))
  have HB2 := Lib.hid (HBA.out.trans (hb2.mono HBA.out.size))
  have hlw := hb2.size
  simp at hlw
  clear hb2 hv2 hp' HBA HR1 HR2 HV1 HB1
  have K0 : Dozen (w2.alloc (.cells #[.int .i64 s3, .bool b3, .slice a3 n3 c3, .int .i64 s4, .bool b4, .slice a4 n4 c4] 63)) w1.heap.size w2.heap.size (.int .i64 s1) (.bool b1) (.slice a1 n1 c1) (.int .i64 s2) (.bool b2) (.slice a2 n2 c2) (.int .i64 s3) (.bool b3) (.slice a3 n3 c3) (.int .i64 s4) (.bool b4) (.slice a4 n4 c4) :=
    Dozen.of ((Below.heap_alloc _ _ _ (lt_of_heap HA2.out)).trans HA2.out) (heap_alloc_new w2 _)
  have HX : Hid ((w2.alloc (.cells #[.int .i64 s3, .bool b3, .slice a3 n3 c3, .int .i64 s4, .bool b4, .slice a4 n4 c4] 63)).heap[w.heap.size]? = some (.cells #[.int .i64 0, .bool false, .slice none 0 0, .int .i64 0, .bool false, .slice none 0 0] 63 (0, 0))) := Lib.hid ((Below.heap_alloc _ _ _ (lt_of_heap HR12.out)).trans HR12.out)
  have HY : Hid ((w2.alloc (.cells #[.int .i64 s3, .bool b3, .slice a3 n3 c3, .int .i64 s4, .bool b4, .slice a4 n4 c4] 63)).heap[w.heap.size + 1]? = some (.cells #[.int .i64 0, .bool false, .slice none 0 0, .int .i64 0, .bool false, .slice none 0 0] 63 (0, 0))) := Lib.hid ((Below.heap_alloc _ _ _ (lt_of_heap HR22.out)).trans HR22.out)
  have HV3 := Lib.hid (HV12.out.far ((Below.refl w2.heap.size w2).alloc (Nat.le_refl _) (.cells #[.int .i64 s3, .bool b3, .slice a3 n3 c3, .int .i64 s4, .bool b4, .slice a4 n4 c4] 63)))
  have HV4 := Lib.hid (HV2.out.far ((Below.refl w2.heap.size w2).alloc (Nat.le_refl _) (.cells #[.int .i64 s3, .bool b3, .slice a3 n3 c3, .int .i64 s4, .bool b4, .slice a4 n4 c4] 63)))
  have HB3 := Lib.hid (HB2.out.alloc HB2.out.size (.cells #[.int .i64 s3, .bool b3, .slice a3 n3 c3, .int .i64 s4, .bool b4, .slice a4 n4 c4] 63))
  have KD := Lib.hid K0
  obtain ⟨k0, k1, k2, k3, k4, k5, l0, l1, l2, l3, l4, l5⟩ := K0
  clear HR12 HR22 HA2 HV12 HV2 HB2 KD
  go_wp2_with fail
  generalize hW3 : w2.alloc (.cells #[.int .i64 s3, .bool b3, .slice a3 n3 c3, .int .i64 s4, .bool b4, .slice a4 n4 c4] 63) = W3 at *
  clear hW3
  obtain ⟨⟨r0, r1, r2, r3, r4, r5⟩, fr⟩ := ResR.cells HX.out
  obtain ⟨⟨q0, q1, q2, q3, q4, q5⟩, fq⟩ := ResR.cells HY.out
  have fr0 := fr 0
  have fr1 := fr 1
  have fr2 := fr 2
  have fr3 := fr 3
  have fr4 := fr 4
  have fr5 := fr 5
  have fq0 := fq 0
  have fq1 := fq 1
  have fq2 := fq 2
  have fq3 := fq 3
  have fq4 := fq 4
  have fq5 := fq 5
  have ne1 : w1.heap.size ≠ w.heap.size := by omega
  have ne2 : w2.heap.size ≠ w.heap.size := by omega
  have ne3 : w1.heap.size ≠ w.heap.size + 1 := by omega
  have ne4 : w2.heap.size ≠ w.heap.size + 1 := by omega
  clear fr fq
  go_region
  go_wp2
  have e1 := set6_heap HX.out (.int .i64 s1) (.bool b1) (.slice a1 n1 c1) (.int .i64 s2) (.bool b2) (.slice a2 n2 c2)
  have e2 := (set6_other (w := W3) (R := w.heap.size) (g := w.heap.size + 1) (by omega) (.int .i64 s1) (.bool b1) (.slice a1 n1 c1) (.int .i64 s2) (.bool b2) (.slice a2 n2 c2)).trans HY.out
  have e3 := set6_heap e2 (.int .i64 s3) (.bool b3) (.slice a3 n3 c3) (.int .i64 s4) (.bool b4) (.slice a4 n4 c4)
  have e4 := (set6_other (w := set6 W3 w.heap.size (.int .i64 s1) (.bool b1) (.slice a1 n1 c1) (.int .i64 s2) (.bool b2) (.slice a2 n2 c2)) (R := w.heap.size + 1) (g := w.heap.size) (by omega) (.int .i64 s3) (.bool b3) (.slice a3 n3 c3) (.int .i64 s4) (.bool b4) (.slice a4 n4 c4)).trans e1
  have v3 := (HV3.out.heap_same HX.out (by decide) (fun k hk => set6_other hk (.int .i64 s1) (.bool b1) (.slice a1 n1 c1) (.int .i64 s2) (.bool b2) (.slice a2 n2 c2))).heap_same e2 (by decide) (fun k hk => set6_other hk (.int .i64 s3) (.bool b3) (.slice a3 n3 c3) (.int .i64 s4) (.bool b4) (.slice a4 n4 c4))
  have v4 := (HV4.out.heap_same HX.out (by decide) (fun k hk => set6_other hk (.int .i64 s1) (.bool b1) (.slice a1 n1 c1) (.int .i64 s2) (.bool b2) (.slice a2 n2 c2))).heap_same e2 (by decide) (fun k hk => set6_other hk (.int .i64 s3) (.bool b3) (.slice a3 n3 c3) (.int .i64 s4) (.bool b4) (.slice a4 n4 c4))
  have bl := set6_below (set6_below HB3.out (Nat.le_refl _) (.int .i64 s1) (.bool b1) (.slice a1 n1 c1) (.int .i64 s2) (.bool b2) (.slice a2 n2 c2)) (Nat.le_succ _) (.int .i64 s3) (.bool b3) (.slice a3 n3 c3) (.int .i64 s4) (.bool b4) (.slice a4 n4 c4)
  show bodyPost _ _ _ _ _ ((set6 (set6 W3 w.heap.size (.int .i64 s1) (.bool b1) (.slice a1 n1 c1) (.int .i64 s2) (.bool b2) (.slice a2 n2 c2)) (w.heap.size + 1) (.int .i64 s3) (.bool b3) (.slice a3 n3 c3) (.int .i64 s4) (.bool b4) (.slice a4 n4 c4)).drew)
  generalize set6 (set6 W3 w.heap.size (.int .i64 s1) (.bool b1) (.slice a1 n1 c1) (.int .i64 s2) (.bool b2) (.slice a2 n2 c2)) (w.heap.size + 1) (.int .i64 s3) (.bool b3) (.slice a3 n3 c3) (.int .i64 s4) (.bool b4) (.slice a4 n4 c4) = W5 at *
  have f3 : W5.drew.heap[w.heap.size + 1]? = _ := e3
  have f4 : W5.drew.heap[w.heap.size]? = _ := e4
  have g3 : RV W5.drew _ _ := v3.far (below_drewN (Below.refl _ _) 1)
  have g4 : RV W5.drew _ _ := v4.far (below_drewN (Below.refl _ _) 1)
  have gb : Below w.heap.size w W5.drew := below_drewN bl 1
  clear e1 e2 e3 e4 v3 v4 bl
  generalize W5.drew = W6 at *
  exact end_pair Tryz.results78 rfl rfl rfl rfl f4 f3 g3 g4 gb
theorem pair_ns {q : Rat} (s t : ByteArray) (w : World) (h : Env w) (hp : ParseIs s (none : Option Rat)) (hp' : ParseIs t (some q)) : Calls Tryz.prog 78 #[.string s, .string t] w (PairPost (none : Option Rat) (some q) w) := by
  have HB0 := Lib.hid (below2 w (.cells #[.int .i64 0, .bool false, .slice none 0 0, .int .i64 0, .bool false, .slice none 0 0] 63) (.cells #[.int .i64 0, .bool false, .slice none 0 0, .int .i64 0, .bool false, .slice none 0 0] 63))
  have HE := Lib.hid h
  clear h
  go_enter Tryz.func78, Tryz.ntmps78
  go_wp2_with fail
  refine (hp _ (HE.out.far HB0.out)).mono ?_
  rintro e w1 ⟨v1, rfl, hv1, hb1⟩
  have HV1 := Lib.hid hv1
  obtain ⟨s1, b1, a1, n1, c1, s2, b2, a2, n2, c2, rfl, -, -⟩ := rv_form hv1
  have HR1 := Lib.hid ((hb1.block w.heap.size (by simp; omega)).trans ((Below.heap_alloc _ _ _ (by simp)).trans (heap_alloc_new w _)))
  have HR2 := Lib.hid ((hb1.block (w.heap.size + 1) (by simp)).trans (new_second w _ _))
  have HB1 := Lib.hid (HB0.out.trans (hb1.mono (by simp; omega)))
  clear hb1 hv1 hp HB0
  have HBA := Lib.hid (HB1.out.alloc HB1.out.size (.cells #[.int .i64 s1, .bool b1, .slice a1 n1 c1, .int .i64 s2, .bool b2, .slice a2 n2 c2] 63))
  go_wp2_with fail
  refine (hp' _ (HE.out.far HBA.out)).mono ?_
  rintro e w2 ⟨v2, rfl, hv2, hb2⟩
  have HV2 := Lib.hid hv2
  obtain ⟨s3, b3, a3, n3, c3, s4, b4, a4, n4, c4, rfl, -, -⟩ := rv_form hv2
  have HA2 := Lib.hid ((hb2.block w1.heap.size (by simp)).trans (heap_alloc_new w1 _))
  have HV12 := Lib.hid ((HV1.out.far ((Below.refl _ _).alloc (Nat.le_refl _) _)).far hb2)
  have hl1 := lt_of_heap HR1.out
  have hl2 := lt_of_heap HR2.out
  have HR12 := Lib.hid ((hb2.block w.heap.size (by simp; omega)).trans ((Below.heap_alloc _ _ _ hl1).trans HR1.out))
  have HR22 := Lib.hid ((hb2.block (w.heap.size + 1) (by simp; omega)).trans ((Below.heap_alloc _ _ _ hl2).trans HR2.out))
  have HB2 := Lib.hid (HBA.out.trans (hb2.mono HBA.out.size))
  have hlw := hb2.size
  simp at hlw
  clear hb2 hv2 hp' HBA HR1 HR2 HV1 HB1
  have K0 : Dozen (w2.alloc (.cells #[.int .i64 s3, .bool b3, .slice a3 n3 c3, .int .i64 s4, .bool b4, .slice a4 n4 c4] 63)) w1.heap.size w2.heap.size (.int .i64 s1) (.bool b1) (.slice a1 n1 c1) (.int .i64 s2) (.bool b2) (.slice a2 n2 c2) (.int .i64 s3) (.bool b3) (.slice a3 n3 c3) (.int .i64 s4) (.bool b4) (.slice a4 n4 c4) :=
    Dozen.of ((Below.heap_alloc _ _ _ (lt_of_heap HA2.out)).trans HA2.out) (heap_alloc_new w2 _)
  have HX : Hid ((w2.alloc (.cells #[.int .i64 s3, .bool b3, .slice a3 n3 c3, .int .i64 s4, .bool b4, .slice a4 n4 c4] 63)).heap[w.heap.size]? = some (.cells #[.int .i64 0, .bool false, .slice none 0 0, .int .i64 0, .bool false, .slice none 0 0] 63 (0, 0))) := Lib.hid ((Below.heap_alloc _ _ _ (lt_of_heap HR12.out)).trans HR12.out)
  have HY : Hid ((w2.alloc (.cells #[.int .i64 s3, .bool b3, .slice a3 n3 c3, .int .i64 s4, .bool b4, .slice a4 n4 c4] 63)).heap[w.heap.size + 1]? = some (.cells #[.int .i64 0, .bool false, .slice none 0 0, .int .i64 0, .bool false, .slice none 0 0] 63 (0, 0))) := Lib.hid ((Below.heap_alloc _ _ _ (lt_of_heap HR22.out)).trans HR22.out)
  have HV3 := Lib.hid (HV12.out.far ((Below.refl w2.heap.size w2).alloc (Nat.le_refl _) (.cells #[.int .i64 s3, .bool b3, .slice a3 n3 c3, .int .i64 s4, .bool b4, .slice a4 n4 c4] 63)))
  have HV4 := Lib.hid (HV2.out.far ((Below.refl w2.heap.size w2).alloc (Nat.le_refl _) (.cells #[.int .i64 s3, .bool b3, .slice a3 n3 c3, .int .i64 s4, .bool b4, .slice a4 n4 c4] 63)))
  have HB3 := Lib.hid (HB2.out.alloc HB2.out.size (.cells #[.int .i64 s3, .bool b3, .slice a3 n3 c3, .int .i64 s4, .bool b4, .slice a4 n4 c4] 63))
  have KD := Lib.hid K0
  obtain ⟨k0, k1, k2, k3, k4, k5, l0, l1, l2, l3, l4, l5⟩ := K0
  clear HR12 HR22 HA2 HV12 HV2 HB2 KD
  go_wp2_with fail
  generalize hW3 : w2.alloc (.cells #[.int .i64 s3, .bool b3, .slice a3 n3 c3, .int .i64 s4, .bool b4, .slice a4 n4 c4] 63) = W3 at *
  clear hW3
  obtain ⟨⟨r0, r1, r2, r3, r4, r5⟩, fr⟩ := ResR.cells HX.out
  obtain ⟨⟨q0, q1, q2, q3, q4, q5⟩, fq⟩ := ResR.cells HY.out
  have fr0 := fr 0
  have fr1 := fr 1
  have fr2 := fr 2
  have fr3 := fr 3
  have fr4 := fr 4
  have fr5 := fr 5
  have fq0 := fq 0
  have fq1 := fq 1
  have fq2 := fq 2
  have fq3 := fq 3
  have fq4 := fq 4
  have fq5 := fq 5
  have ne1 : w1.heap.size ≠ w.heap.size := by omega
  have ne2 : w2.heap.size ≠ w.heap.size := by omega
  have ne3 : w1.heap.size ≠ w.heap.size + 1 := by omega
  have ne4 : w2.heap.size ≠ w.heap.size + 1 := by omega
  clear fr fq
  go_region
  go_wp2
  have e1 := set6_heap HX.out (.int .i64 s1) (.bool b1) (.slice a1 n1 c1) (.int .i64 s2) (.bool b2) (.slice a2 n2 c2)
  have e2 := (set6_other (w := W3) (R := w.heap.size) (g := w.heap.size + 1) (by omega) (.int .i64 s1) (.bool b1) (.slice a1 n1 c1) (.int .i64 s2) (.bool b2) (.slice a2 n2 c2)).trans HY.out
  have e3 := set6_heap e2 (.int .i64 s3) (.bool b3) (.slice a3 n3 c3) (.int .i64 s4) (.bool b4) (.slice a4 n4 c4)
  have e4 := (set6_other (w := set6 W3 w.heap.size (.int .i64 s1) (.bool b1) (.slice a1 n1 c1) (.int .i64 s2) (.bool b2) (.slice a2 n2 c2)) (R := w.heap.size + 1) (g := w.heap.size) (by omega) (.int .i64 s3) (.bool b3) (.slice a3 n3 c3) (.int .i64 s4) (.bool b4) (.slice a4 n4 c4)).trans e1
  have v3 := (HV3.out.heap_same HX.out (by decide) (fun k hk => set6_other hk (.int .i64 s1) (.bool b1) (.slice a1 n1 c1) (.int .i64 s2) (.bool b2) (.slice a2 n2 c2))).heap_same e2 (by decide) (fun k hk => set6_other hk (.int .i64 s3) (.bool b3) (.slice a3 n3 c3) (.int .i64 s4) (.bool b4) (.slice a4 n4 c4))
  have v4 := (HV4.out.heap_same HX.out (by decide) (fun k hk => set6_other hk (.int .i64 s1) (.bool b1) (.slice a1 n1 c1) (.int .i64 s2) (.bool b2) (.slice a2 n2 c2))).heap_same e2 (by decide) (fun k hk => set6_other hk (.int .i64 s3) (.bool b3) (.slice a3 n3 c3) (.int .i64 s4) (.bool b4) (.slice a4 n4 c4))
  have bl := set6_below (set6_below HB3.out (Nat.le_refl _) (.int .i64 s1) (.bool b1) (.slice a1 n1 c1) (.int .i64 s2) (.bool b2) (.slice a2 n2 c2)) (Nat.le_succ _) (.int .i64 s3) (.bool b3) (.slice a3 n3 c3) (.int .i64 s4) (.bool b4) (.slice a4 n4 c4)
  show bodyPost _ _ _ _ _ ((set6 (set6 W3 w.heap.size (.int .i64 s1) (.bool b1) (.slice a1 n1 c1) (.int .i64 s2) (.bool b2) (.slice a2 n2 c2)) (w.heap.size + 1) (.int .i64 s3) (.bool b3) (.slice a3 n3 c3) (.int .i64 s4) (.bool b4) (.slice a4 n4 c4)).drew)
  generalize set6 (set6 W3 w.heap.size (.int .i64 s1) (.bool b1) (.slice a1 n1 c1) (.int .i64 s2) (.bool b2) (.slice a2 n2 c2)) (w.heap.size + 1) (.int .i64 s3) (.bool b3) (.slice a3 n3 c3) (.int .i64 s4) (.bool b4) (.slice a4 n4 c4) = W5 at *
  have f3 : W5.drew.heap[w.heap.size + 1]? = _ := e3
  have f4 : W5.drew.heap[w.heap.size]? = _ := e4
  have g3 : RV W5.drew _ _ := v3.far (below_drewN (Below.refl _ _) 1)
  have g4 : RV W5.drew _ _ := v4.far (below_drewN (Below.refl _ _) 1)
  have gb : Below w.heap.size w W5.drew := below_drewN bl 1
  clear e1 e2 e3 e4 v3 v4 bl
  generalize W5.drew = W6 at *
  exact end_pair Tryz.results78 rfl rfl rfl rfl f4 f3 g3 g4 gb
theorem pair_sn {p : Rat} (s t : ByteArray) (w : World) (h : Env w) (hp : ParseIs s (some p)) (hp' : ParseIs t (none : Option Rat)) : Calls Tryz.prog 78 #[.string s, .string t] w (PairPost (some p) (none : Option Rat) w) := by
  have HB0 := Lib.hid (below2 w (.cells #[.int .i64 0, .bool false, .slice none 0 0, .int .i64 0, .bool false, .slice none 0 0] 63) (.cells #[.int .i64 0, .bool false, .slice none 0 0, .int .i64 0, .bool false, .slice none 0 0] 63))
  have HE := Lib.hid h
  clear h
  go_enter Tryz.func78, Tryz.ntmps78
  go_wp2_with fail
  refine (hp _ (HE.out.far HB0.out)).mono ?_
  rintro e w1 ⟨v1, rfl, hv1, hb1⟩
  have HV1 := Lib.hid hv1
  obtain ⟨s1, b1, a1, n1, c1, s2, b2, a2, n2, c2, rfl, -, -⟩ := rv_form hv1
  have HR1 := Lib.hid ((hb1.block w.heap.size (by simp; omega)).trans ((Below.heap_alloc _ _ _ (by simp)).trans (heap_alloc_new w _)))
  have HR2 := Lib.hid ((hb1.block (w.heap.size + 1) (by simp)).trans (new_second w _ _))
  have HB1 := Lib.hid (HB0.out.trans (hb1.mono (by simp; omega)))
  clear hb1 hv1 hp HB0
  have HBA := Lib.hid (HB1.out.alloc HB1.out.size (.cells #[.int .i64 s1, .bool b1, .slice a1 n1 c1, .int .i64 s2, .bool b2, .slice a2 n2 c2] 63))
  go_wp2_with fail
  refine (hp' _ (HE.out.far HBA.out)).mono ?_
  rintro e w2 ⟨v2, rfl, hv2, hb2⟩
  have HV2 := Lib.hid hv2
  obtain ⟨s3, b3, a3, n3, c3, s4, b4, a4, n4, c4, rfl, -, -⟩ := rv_form hv2
  have HA2 := Lib.hid ((hb2.block w1.heap.size (by simp)).trans (heap_alloc_new w1 _))
  have HV12 := Lib.hid ((HV1.out.far ((Below.refl _ _).alloc (Nat.le_refl _) _)).far hb2)
  have hl1 := lt_of_heap HR1.out
  have hl2 := lt_of_heap HR2.out
  have HR12 := Lib.hid ((hb2.block w.heap.size (by simp; omega)).trans ((Below.heap_alloc _ _ _ hl1).trans HR1.out))
  have HR22 := Lib.hid ((hb2.block (w.heap.size + 1) (by simp; omega)).trans ((Below.heap_alloc _ _ _ hl2).trans HR2.out))
  have HB2 := Lib.hid (HBA.out.trans (hb2.mono HBA.out.size))
  have hlw := hb2.size
  simp at hlw
  clear hb2 hv2 hp' HBA HR1 HR2 HV1 HB1
  have K0 : Dozen (w2.alloc (.cells #[.int .i64 s3, .bool b3, .slice a3 n3 c3, .int .i64 s4, .bool b4, .slice a4 n4 c4] 63)) w1.heap.size w2.heap.size (.int .i64 s1) (.bool b1) (.slice a1 n1 c1) (.int .i64 s2) (.bool b2) (.slice a2 n2 c2) (.int .i64 s3) (.bool b3) (.slice a3 n3 c3) (.int .i64 s4) (.bool b4) (.slice a4 n4 c4) :=
    Dozen.of ((Below.heap_alloc _ _ _ (lt_of_heap HA2.out)).trans HA2.out) (heap_alloc_new w2 _)
  have HX : Hid ((w2.alloc (.cells #[.int .i64 s3, .bool b3, .slice a3 n3 c3, .int .i64 s4, .bool b4, .slice a4 n4 c4] 63)).heap[w.heap.size]? = some (.cells #[.int .i64 0, .bool false, .slice none 0 0, .int .i64 0, .bool false, .slice none 0 0] 63 (0, 0))) := Lib.hid ((Below.heap_alloc _ _ _ (lt_of_heap HR12.out)).trans HR12.out)
  have HY : Hid ((w2.alloc (.cells #[.int .i64 s3, .bool b3, .slice a3 n3 c3, .int .i64 s4, .bool b4, .slice a4 n4 c4] 63)).heap[w.heap.size + 1]? = some (.cells #[.int .i64 0, .bool false, .slice none 0 0, .int .i64 0, .bool false, .slice none 0 0] 63 (0, 0))) := Lib.hid ((Below.heap_alloc _ _ _ (lt_of_heap HR22.out)).trans HR22.out)
  have HV3 := Lib.hid (HV12.out.far ((Below.refl w2.heap.size w2).alloc (Nat.le_refl _) (.cells #[.int .i64 s3, .bool b3, .slice a3 n3 c3, .int .i64 s4, .bool b4, .slice a4 n4 c4] 63)))
  have HV4 := Lib.hid (HV2.out.far ((Below.refl w2.heap.size w2).alloc (Nat.le_refl _) (.cells #[.int .i64 s3, .bool b3, .slice a3 n3 c3, .int .i64 s4, .bool b4, .slice a4 n4 c4] 63)))
  have HB3 := Lib.hid (HB2.out.alloc HB2.out.size (.cells #[.int .i64 s3, .bool b3, .slice a3 n3 c3, .int .i64 s4, .bool b4, .slice a4 n4 c4] 63))
  have KD := Lib.hid K0
  obtain ⟨k0, k1, k2, k3, k4, k5, l0, l1, l2, l3, l4, l5⟩ := K0
  clear HR12 HR22 HA2 HV12 HV2 HB2 KD
  go_wp2_with fail
  generalize hW3 : w2.alloc (.cells #[.int .i64 s3, .bool b3, .slice a3 n3 c3, .int .i64 s4, .bool b4, .slice a4 n4 c4] 63) = W3 at *
  clear hW3
  obtain ⟨⟨r0, r1, r2, r3, r4, r5⟩, fr⟩ := ResR.cells HX.out
  obtain ⟨⟨q0, q1, q2, q3, q4, q5⟩, fq⟩ := ResR.cells HY.out
  have fr0 := fr 0
  have fr1 := fr 1
  have fr2 := fr 2
  have fr3 := fr 3
  have fr4 := fr 4
  have fr5 := fr 5
  have fq0 := fq 0
  have fq1 := fq 1
  have fq2 := fq 2
  have fq3 := fq 3
  have fq4 := fq 4
  have fq5 := fq 5
  have ne1 : w1.heap.size ≠ w.heap.size := by omega
  have ne2 : w2.heap.size ≠ w.heap.size := by omega
  have ne3 : w1.heap.size ≠ w.heap.size + 1 := by omega
  have ne4 : w2.heap.size ≠ w.heap.size + 1 := by omega
  clear fr fq
  go_region
  go_wp2
  have e1 := set6_heap HX.out (.int .i64 s1) (.bool b1) (.slice a1 n1 c1) (.int .i64 s2) (.bool b2) (.slice a2 n2 c2)
  have e2 := (set6_other (w := W3) (R := w.heap.size) (g := w.heap.size + 1) (by omega) (.int .i64 s1) (.bool b1) (.slice a1 n1 c1) (.int .i64 s2) (.bool b2) (.slice a2 n2 c2)).trans HY.out
  have e3 := set6_heap e2 (.int .i64 s3) (.bool b3) (.slice a3 n3 c3) (.int .i64 s4) (.bool b4) (.slice a4 n4 c4)
  have e4 := (set6_other (w := set6 W3 w.heap.size (.int .i64 s1) (.bool b1) (.slice a1 n1 c1) (.int .i64 s2) (.bool b2) (.slice a2 n2 c2)) (R := w.heap.size + 1) (g := w.heap.size) (by omega) (.int .i64 s3) (.bool b3) (.slice a3 n3 c3) (.int .i64 s4) (.bool b4) (.slice a4 n4 c4)).trans e1
  have v3 := (HV3.out.heap_same HX.out (by decide) (fun k hk => set6_other hk (.int .i64 s1) (.bool b1) (.slice a1 n1 c1) (.int .i64 s2) (.bool b2) (.slice a2 n2 c2))).heap_same e2 (by decide) (fun k hk => set6_other hk (.int .i64 s3) (.bool b3) (.slice a3 n3 c3) (.int .i64 s4) (.bool b4) (.slice a4 n4 c4))
  have v4 := (HV4.out.heap_same HX.out (by decide) (fun k hk => set6_other hk (.int .i64 s1) (.bool b1) (.slice a1 n1 c1) (.int .i64 s2) (.bool b2) (.slice a2 n2 c2))).heap_same e2 (by decide) (fun k hk => set6_other hk (.int .i64 s3) (.bool b3) (.slice a3 n3 c3) (.int .i64 s4) (.bool b4) (.slice a4 n4 c4))
  have bl := set6_below (set6_below HB3.out (Nat.le_refl _) (.int .i64 s1) (.bool b1) (.slice a1 n1 c1) (.int .i64 s2) (.bool b2) (.slice a2 n2 c2)) (Nat.le_succ _) (.int .i64 s3) (.bool b3) (.slice a3 n3 c3) (.int .i64 s4) (.bool b4) (.slice a4 n4 c4)
  show bodyPost _ _ _ _ _ ((set6 (set6 W3 w.heap.size (.int .i64 s1) (.bool b1) (.slice a1 n1 c1) (.int .i64 s2) (.bool b2) (.slice a2 n2 c2)) (w.heap.size + 1) (.int .i64 s3) (.bool b3) (.slice a3 n3 c3) (.int .i64 s4) (.bool b4) (.slice a4 n4 c4)).drew)
  generalize set6 (set6 W3 w.heap.size (.int .i64 s1) (.bool b1) (.slice a1 n1 c1) (.int .i64 s2) (.bool b2) (.slice a2 n2 c2)) (w.heap.size + 1) (.int .i64 s3) (.bool b3) (.slice a3 n3 c3) (.int .i64 s4) (.bool b4) (.slice a4 n4 c4) = W5 at *
  have f3 : W5.drew.heap[w.heap.size + 1]? = _ := e3
  have f4 : W5.drew.heap[w.heap.size]? = _ := e4
  have g3 : RV W5.drew _ _ := v3.far (below_drewN (Below.refl _ _) 1)
  have g4 : RV W5.drew _ _ := v4.far (below_drewN (Below.refl _ _) 1)
  have gb : Below w.heap.size w W5.drew := below_drewN bl 1
  clear e1 e2 e3 e4 v3 v4 bl
  generalize W5.drew = W6 at *
  exact end_pair Tryz.results78 rfl rfl rfl rfl f4 f3 g3 g4 gb
theorem pair_ss {p q : Rat} (s t : ByteArray) (w : World) (h : Env w) (hp : ParseIs s (some p)) (hp' : ParseIs t (some q)) : Calls Tryz.prog 78 #[.string s, .string t] w (PairPost (some p) (some q) w) := by
  have HB0 := Lib.hid (below2 w (.cells #[.int .i64 0, .bool false, .slice none 0 0, .int .i64 0, .bool false, .slice none 0 0] 63) (.cells #[.int .i64 0, .bool false, .slice none 0 0, .int .i64 0, .bool false, .slice none 0 0] 63))
  have HE := Lib.hid h
  clear h
  go_enter Tryz.func78, Tryz.ntmps78
  go_wp2_with fail
  refine (hp _ (HE.out.far HB0.out)).mono ?_
  rintro e w1 ⟨v1, rfl, hv1, hb1⟩
  have HV1 := Lib.hid hv1
  obtain ⟨s1, b1, a1, n1, c1, s2, b2, a2, n2, c2, rfl, -, -⟩ := rv_form hv1
  have HR1 := Lib.hid ((hb1.block w.heap.size (by simp; omega)).trans ((Below.heap_alloc _ _ _ (by simp)).trans (heap_alloc_new w _)))
  have HR2 := Lib.hid ((hb1.block (w.heap.size + 1) (by simp)).trans (new_second w _ _))
  have HB1 := Lib.hid (HB0.out.trans (hb1.mono (by simp; omega)))
  clear hb1 hv1 hp HB0
  have HBA := Lib.hid (HB1.out.alloc HB1.out.size (.cells #[.int .i64 s1, .bool b1, .slice a1 n1 c1, .int .i64 s2, .bool b2, .slice a2 n2 c2] 63))
  go_wp2_with fail
  refine (hp' _ (HE.out.far HBA.out)).mono ?_
  rintro e w2 ⟨v2, rfl, hv2, hb2⟩
  have HV2 := Lib.hid hv2
  obtain ⟨s3, b3, a3, n3, c3, s4, b4, a4, n4, c4, rfl, -, -⟩ := rv_form hv2
  have HA2 := Lib.hid ((hb2.block w1.heap.size (by simp)).trans (heap_alloc_new w1 _))
  have HV12 := Lib.hid ((HV1.out.far ((Below.refl _ _).alloc (Nat.le_refl _) _)).far hb2)
  have hl1 := lt_of_heap HR1.out
  have hl2 := lt_of_heap HR2.out
  have HR12 := Lib.hid ((hb2.block w.heap.size (by simp; omega)).trans ((Below.heap_alloc _ _ _ hl1).trans HR1.out))
  have HR22 := Lib.hid ((hb2.block (w.heap.size + 1) (by simp; omega)).trans ((Below.heap_alloc _ _ _ hl2).trans HR2.out))
  have HB2 := Lib.hid (HBA.out.trans (hb2.mono HBA.out.size))
  have hlw := hb2.size
  simp at hlw
  clear hb2 hv2 hp' HBA HR1 HR2 HV1 HB1
  have K0 : Dozen (w2.alloc (.cells #[.int .i64 s3, .bool b3, .slice a3 n3 c3, .int .i64 s4, .bool b4, .slice a4 n4 c4] 63)) w1.heap.size w2.heap.size (.int .i64 s1) (.bool b1) (.slice a1 n1 c1) (.int .i64 s2) (.bool b2) (.slice a2 n2 c2) (.int .i64 s3) (.bool b3) (.slice a3 n3 c3) (.int .i64 s4) (.bool b4) (.slice a4 n4 c4) :=
    Dozen.of ((Below.heap_alloc _ _ _ (lt_of_heap HA2.out)).trans HA2.out) (heap_alloc_new w2 _)
  have HX : Hid ((w2.alloc (.cells #[.int .i64 s3, .bool b3, .slice a3 n3 c3, .int .i64 s4, .bool b4, .slice a4 n4 c4] 63)).heap[w.heap.size]? = some (.cells #[.int .i64 0, .bool false, .slice none 0 0, .int .i64 0, .bool false, .slice none 0 0] 63 (0, 0))) := Lib.hid ((Below.heap_alloc _ _ _ (lt_of_heap HR12.out)).trans HR12.out)
  have HY : Hid ((w2.alloc (.cells #[.int .i64 s3, .bool b3, .slice a3 n3 c3, .int .i64 s4, .bool b4, .slice a4 n4 c4] 63)).heap[w.heap.size + 1]? = some (.cells #[.int .i64 0, .bool false, .slice none 0 0, .int .i64 0, .bool false, .slice none 0 0] 63 (0, 0))) := Lib.hid ((Below.heap_alloc _ _ _ (lt_of_heap HR22.out)).trans HR22.out)
  have HV3 := Lib.hid (HV12.out.far ((Below.refl w2.heap.size w2).alloc (Nat.le_refl _) (.cells #[.int .i64 s3, .bool b3, .slice a3 n3 c3, .int .i64 s4, .bool b4, .slice a4 n4 c4] 63)))
  have HV4 := Lib.hid (HV2.out.far ((Below.refl w2.heap.size w2).alloc (Nat.le_refl _) (.cells #[.int .i64 s3, .bool b3, .slice a3 n3 c3, .int .i64 s4, .bool b4, .slice a4 n4 c4] 63)))
  have HB3 := Lib.hid (HB2.out.alloc HB2.out.size (.cells #[.int .i64 s3, .bool b3, .slice a3 n3 c3, .int .i64 s4, .bool b4, .slice a4 n4 c4] 63))
  have KD := Lib.hid K0
  obtain ⟨k0, k1, k2, k3, k4, k5, l0, l1, l2, l3, l4, l5⟩ := K0
  clear HR12 HR22 HA2 HV12 HV2 HB2 KD
  go_wp2_with fail
  generalize hW3 : w2.alloc (.cells #[.int .i64 s3, .bool b3, .slice a3 n3 c3, .int .i64 s4, .bool b4, .slice a4 n4 c4] 63) = W3 at *
  clear hW3
  obtain ⟨⟨r0, r1, r2, r3, r4, r5⟩, fr⟩ := ResR.cells HX.out
  obtain ⟨⟨q0, q1, q2, q3, q4, q5⟩, fq⟩ := ResR.cells HY.out
  have fr0 := fr 0
  have fr1 := fr 1
  have fr2 := fr 2
  have fr3 := fr 3
  have fr4 := fr 4
  have fr5 := fr 5
  have fq0 := fq 0
  have fq1 := fq 1
  have fq2 := fq 2
  have fq3 := fq 3
  have fq4 := fq 4
  have fq5 := fq 5
  have ne1 : w1.heap.size ≠ w.heap.size := by omega
  have ne2 : w2.heap.size ≠ w.heap.size := by omega
  have ne3 : w1.heap.size ≠ w.heap.size + 1 := by omega
  have ne4 : w2.heap.size ≠ w.heap.size + 1 := by omega
  clear fr fq
  go_region
  go_wp2
  have e1 := set6_heap HX.out (.int .i64 s1) (.bool b1) (.slice a1 n1 c1) (.int .i64 s2) (.bool b2) (.slice a2 n2 c2)
  have e2 := (set6_other (w := W3) (R := w.heap.size) (g := w.heap.size + 1) (by omega) (.int .i64 s1) (.bool b1) (.slice a1 n1 c1) (.int .i64 s2) (.bool b2) (.slice a2 n2 c2)).trans HY.out
  have e3 := set6_heap e2 (.int .i64 s3) (.bool b3) (.slice a3 n3 c3) (.int .i64 s4) (.bool b4) (.slice a4 n4 c4)
  have e4 := (set6_other (w := set6 W3 w.heap.size (.int .i64 s1) (.bool b1) (.slice a1 n1 c1) (.int .i64 s2) (.bool b2) (.slice a2 n2 c2)) (R := w.heap.size + 1) (g := w.heap.size) (by omega) (.int .i64 s3) (.bool b3) (.slice a3 n3 c3) (.int .i64 s4) (.bool b4) (.slice a4 n4 c4)).trans e1
  have v3 := (HV3.out.heap_same HX.out (by decide) (fun k hk => set6_other hk (.int .i64 s1) (.bool b1) (.slice a1 n1 c1) (.int .i64 s2) (.bool b2) (.slice a2 n2 c2))).heap_same e2 (by decide) (fun k hk => set6_other hk (.int .i64 s3) (.bool b3) (.slice a3 n3 c3) (.int .i64 s4) (.bool b4) (.slice a4 n4 c4))
  have v4 := (HV4.out.heap_same HX.out (by decide) (fun k hk => set6_other hk (.int .i64 s1) (.bool b1) (.slice a1 n1 c1) (.int .i64 s2) (.bool b2) (.slice a2 n2 c2))).heap_same e2 (by decide) (fun k hk => set6_other hk (.int .i64 s3) (.bool b3) (.slice a3 n3 c3) (.int .i64 s4) (.bool b4) (.slice a4 n4 c4))
  have bl := set6_below (set6_below HB3.out (Nat.le_refl _) (.int .i64 s1) (.bool b1) (.slice a1 n1 c1) (.int .i64 s2) (.bool b2) (.slice a2 n2 c2)) (Nat.le_succ _) (.int .i64 s3) (.bool b3) (.slice a3 n3 c3) (.int .i64 s4) (.bool b4) (.slice a4 n4 c4)
  show bodyPost _ _ _ _ _ ((set6 (set6 W3 w.heap.size (.int .i64 s1) (.bool b1) (.slice a1 n1 c1) (.int .i64 s2) (.bool b2) (.slice a2 n2 c2)) (w.heap.size + 1) (.int .i64 s3) (.bool b3) (.slice a3 n3 c3) (.int .i64 s4) (.bool b4) (.slice a4 n4 c4)).drew)
  generalize set6 (set6 W3 w.heap.size (.int .i64 s1) (.bool b1) (.slice a1 n1 c1) (.int .i64 s2) (.bool b2) (.slice a2 n2 c2)) (w.heap.size + 1) (.int .i64 s3) (.bool b3) (.slice a3 n3 c3) (.int .i64 s4) (.bool b4) (.slice a4 n4 c4) = W5 at *
  have f3 : W5.drew.heap[w.heap.size + 1]? = _ := e3
  have f4 : W5.drew.heap[w.heap.size]? = _ := e4
  have g3 : RV W5.drew _ _ := v3.far (below_drewN (Below.refl _ _) 1)
  have g4 : RV W5.drew _ _ := v4.far (below_drewN (Below.refl _ _) 1)
  have gb : Below w.heap.size w W5.drew := below_drewN bl 1
  clear e1 e2 e3 e4 v3 v4 bl
  generalize W5.drew = W6 at *
  exact end_pair Tryz.results78 rfl rfl rfl rfl f4 f3 g3 g4 gb
theorem pair_any (s t : ByteArray) (w : World) (hs : s.size ≤ 1000000) (ht : t.size ≤ 1000000) (h : Env w) (hg : GcdAt s.data.toList) (hg' : GcdAt t.data.toList) : Calls Tryz.prog 78 #[.string s, .string t] w (PairPost (ratF s.data.toList) (ratF t.data.toList) w) := by
  have hp : ParseIs s (ratF s.data.toList) := fun W hW => parse_env s W hs hW hg
  have hp' : ParseIs t (ratF t.data.toList) := fun W hW => parse_env t W ht hW hg'
  generalize ratF s.data.toList = oa at *
  generalize ratF t.data.toList = ob at *
  cases oa with
  | none => cases ob with
    | none => exact pair_nn s t w h hp hp'
    | some q => exact pair_ns s t w h hp hp'
  | some p => cases ob with
    | none => exact pair_sn s t w h hp hp'
    | some q => exact pair_ss s t w h hp hp'
end
end Go.Proofs.YtgehimcngljmnaaGreatDoor

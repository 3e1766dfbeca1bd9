/- Rat.Cmp at two integers; number.Cmp at two integers' texts. -/
import Derived.Test.YtgehimcngljmnaaGreatDoorAB
namespace Go.Proofs.YtgehimcngljmnaaGreatDoor
open Go.RowKit Nmx

section
set_option maxRecDepth 100000
set_option maxHeartbeats 4000000
theorem ratCmp_int (x y : Value) (p q : Rat) (w : World) (hx : RV w x p) (hy : RV w y q) (hp : p.den = 1) (hq : q.den = 1) :
    Calls Tryz.prog 79 #[x, y] w fun e w' => e = .returned (.int .i64 (cmpI p.num q.num)) ∧ Below w.heap.size w w' := by
  have hi := fun W hW => ratIsInt_any x p W hW
  have hj := fun W hW => ratIsInt_any y q W hW
  have hpd : decide (p.den = 1) = true := by simpa using hp
  have hqd : decide (q.den = 1) = true := by simpa using hq
  have HX := Lib.hid hx
  have HY := Lib.hid hy
  obtain ⟨s1, b1, a1, n1, c1, s2, b2, a2, n2, c2, rfl, h1, h2⟩ := rv_form hx
  obtain ⟨s3, b3, a3, n3, c3, s4, b4, a4, n4, c4, rfl, h3, h4⟩ := rv_form hy
  have H1 := Lib.hid h1
  have H3 := Lib.hid h3
  have HB0 := Lib.hid (below2 w (.cells #[.int .i64 s1, .bool b1, .slice a1 n1 c1, .int .i64 s2, .bool b2, .slice a2 n2 c2] 63) (.cells #[.int .i64 s3, .bool b3, .slice a3 n3 c3, .int .i64 s4, .bool b4, .slice a4 n4 c4] 63))
  have hi0 := hi _ (HX.out.far HB0.out)
  clear hx hy h1 h2 h3 h4 hp hq hi
  go_enter Tryz.func79, Tryz.ntmps79
  go_wp2_with fail
  refine hi0.mono ?_
  rintro e w1 ⟨rfl, hb1⟩
  have HR1 := Lib.hid ((hb1.block w.heap.size (by simp; omega)).trans ((Below.heap_alloc _ _ _ (by simp)).trans (heap_alloc_new w _)))
  have HR2 := Lib.hid ((hb1.block (w.heap.size + 1) (by simp)).trans (new_second w _ _))
  have HB1 := Lib.hid (HB0.out.trans (hb1.mono (by simp; omega)))
  obtain ⟨y0, y1, y2, y3, y4, y5, z0, z1, z2, z3, z4, z5⟩ := Dozen.of HR1.out HR2.out
  have hj1 := hj w1 (HY.out.far HB1.out)
  clear hb1 hj hi0
  go_wp2_with fail
  refine hj1.mono ?_
  rintro e w2 ⟨rfl, hb2⟩
  have HS1 := Lib.hid ((hb2.block _ (lt_of_heap HR1.out)).trans HR1.out)
  have HS2 := Lib.hid ((hb2.block _ (lt_of_heap HR2.out)).trans HR2.out)
  have HB2 := Lib.hid (HB1.out.trans (hb2.mono HB1.out.size))
  clear hb2 hj1 HR1 HR2 y0 y1 y2 y3 y4 y5 z0 z1 z2 z3 z4 z5
  obtain ⟨y0, y1, y2, y3, y4, y5, z0, z1, z2, z3, z4, z5⟩ := Dozen.of HS1.out HS2.out
  have hc := cmp_any _ _ _ _ w2 (H1.out.far HB2.out) (H3.out.far HB2.out)
  go_wp2_with fail
  refine hc.mono ?_
  rintro e w3 ⟨rfl, hb3⟩
  go_wp2
  go_ret
  exact ⟨rfl, HB2.out.trans (hb3.mono HB2.out.size)⟩
theorem numCmp_int (s t : ByteArray) (a b : Int) (w : World) (hs : s.size ≤ 1000000) (ht : t.size ≤ 1000000) (h : Env w) (ha : ratF s.data.toList = some (a : Rat)) (hb : ratF t.data.toList = some (b : Rat)) (hg : GcdAt s.data.toList) (hg' : GcdAt t.data.toList) :
    Calls Tryz.prog 25 #[.string s, .string t] w fun e w' => e = .returned (.int .i64 (cmpI a b)) ∧ Below w.heap.size w w' := by
  have hp := pair_any s t w hs ht h hg hg'
  rw [ha, hb] at hp
  clear h hg hg' ha hb hs ht
  go_enter Tryz.func25, Tryz.ntmps25
  go_wp2_with fail
  refine hp.mono ?_
  rintro e w1 ⟨v1, v2, rfl, hv1, hv2, hb1⟩
  have hc := fun o o' => ratCmp_int v1 v2 _ _ ((w1.alloc o).alloc o') (hv1.far (below2 w1 o o')) (hv2.far (below2 w1 o o')) (Rat.den_intCast a) (Rat.den_intCast b)
  rw [show ((some (a : Rat)).getD 0).num = a from Rat.num_intCast a, show ((some (b : Rat)).getD 0).num = b from Rat.num_intCast b] at hc
  obtain ⟨s1, b1, a1, n1, c1, s2, b2, a2, n2, c2, rfl, -, -⟩ := rv_form hv1
  obtain ⟨s3, b3, a3, n3, c3, s4, b4, a4, n4, c4, rfl, -, -⟩ := rv_form hv2
  have HB1 := Lib.hid hb1
  clear hv1 hv2 hp hb1
  go_wp2_with fail
  refine (hc _ _).mono ?_
  rintro e w2 ⟨rfl, hb2⟩
  go_wp2
  go_ret
  exact ⟨rfl, (HB1.out.trans ((below2 w1 _ _).mono HB1.out.size)).trans (hb2.mono (by have := HB1.out.size; simp; omega))⟩
end
end Go.Proofs.YtgehimcngljmnaaGreatDoor

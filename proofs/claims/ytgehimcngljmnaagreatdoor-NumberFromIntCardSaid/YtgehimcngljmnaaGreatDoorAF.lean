/- Rat.String at integers, given Int.String there (StrAt); keep6 for the other way. -/
import Derived.Test.YtgehimcngljmnaaGreatDoorAE
namespace Go.Proofs.YtgehimcngljmnaaGreatDoor
open Go.RowKit Nmx

def StrAt (z : Int) : Prop := ∀ (v : Value) (w : World), Env w → IV w v z → Calls Tryz.prog 73 #[v] w fun e w' => e = .returned (.string ⟨(decI z).toArray⟩) ∧ Below w.heap.size w w'
theorem strAt_small {z : Int} (hz : Small z) : StrAt z := fun v w h hv => by
  have := iv_small hv hz
  subst this
  exact intString_small z w h hz
theorem textQ_den1 {q : Rat} (h : q.den = 1) : textQ q = decI q.num := by unfold textQ; rw [if_pos h, List.append_nil]
theorem textQ_den {q : Rat} (h : q.den ≠ 1) : textQ q = decI q.num ++ 47 :: decI q.den := by
  unfold textQ
  rw [if_neg h, decI_nat]

theorem keep6 {a b : World} {g : Nat} {x0 x1 x2 x3 x4 x5 : Value} (hb : Below a.heap.size a b) (hg : g < a.heap.size)
    (h : a.cell? ⟨g, 0, none⟩ = some x0 ∧ a.cell? ⟨g, 1, none⟩ = some x1 ∧ a.cell? ⟨g, 2, none⟩ = some x2 ∧ a.cell? ⟨g, 3, none⟩ = some x3 ∧ a.cell? ⟨g, 4, none⟩ = some x4 ∧ a.cell? ⟨g, 5, none⟩ = some x5) :
    b.cell? ⟨g, 0, none⟩ = some x0 ∧ b.cell? ⟨g, 1, none⟩ = some x1 ∧ b.cell? ⟨g, 2, none⟩ = some x2 ∧ b.cell? ⟨g, 3, none⟩ = some x3 ∧ b.cell? ⟨g, 4, none⟩ = some x4 ∧ b.cell? ⟨g, 5, none⟩ = some x5 := by
  obtain ⟨k0, k1, k2, k3, k4, k5⟩ := h
  have e := hb.block g hg
  refine ⟨?_, ?_, ?_, ?_, ?_, ?_⟩ <;> simp only [World.cell?, e] at * <;> assumption

section
set_option maxRecDepth 100000
set_option maxHeartbeats 4000000
theorem ratString_int (v : Value) (q : Rat) (w : World) (h : RV w v q) (hE : Env w) (hn : StrAt q.num) (hd : q.den = 1) : Calls Tryz.prog 67 #[v] w fun e w' => e = .returned (.string ⟨(textQ q).toArray⟩) ∧ Below w.heap.size w w' := by
  obtain ⟨s1, b1, a1, n1, c1, s2, b2, a2, n2, c2, rfl, h1, h2⟩ := rv_form h
  have hi := fun o => ratIsInt_any (.agg #[.int .i64 s1, .bool b1, .slice a1 n1 c1, .int .i64 s2, .bool b2, .slice a2 n2 c2]) q (w.alloc o) (h.far ((Below.refl _ _).alloc (Nat.le_refl _) o))
  have HB0 := Lib.hid ((Below.refl w.heap.size w).alloc (Nat.le_refl _) (.cells #[.int .i64 s1, .bool b1, .slice a1 n1 c1, .int .i64 s2, .bool b2, .slice a2 n2 c2] 63))
  have H1 := Lib.hid h1
  have H2 := Lib.hid h2
  have HE := Lib.hid hE
  have HN := Lib.hid hn
  clear h hE hn h1 h2
  go_enter Tryz.func67, Tryz.ntmps67
  go_wp2_with fail
  refine (hi _).mono ?_
  rintro e w1 ⟨rfl, hb1⟩
  have HR1 := Lib.hid ((hb1.block w.heap.size (by simp)).trans (heap_alloc_new w (.cells #[.int .i64 s1, .bool b1, .slice a1 n1 c1, .int .i64 s2, .bool b2, .slice a2 n2 c2] 63)))
  have HB1 := Lib.hid (HB0.out.trans (hb1.mono (by simp)))
  obtain ⟨y0, y1, y2, y3, y4, y5, -⟩ := Dozen.of HR1.out HR1.out
  clear hb1 hi HB0
  have hdb : decide (q.den = 1) = true := by simpa using hd
  have HT := Lib.hid (textQ_den1 hd)
  clear hd H2
  have hs := HN.out (.agg #[.int .i64 s1, .bool b1, .slice a1 n1 c1]) w1 (HE.out.far HB1.out) (H1.out.far HB1.out)
  go_wp2_with fail
  refine hs.mono ?_
  rintro e w2 ⟨rfl, hb2⟩
  have HB2 := Lib.hid (HB1.out.trans (hb2.mono HB1.out.size))
  clear hb2 hs
  go_wp2
  go_ret
  exact ⟨by rw [HT.out]; rfl, HB2.out⟩
end
end Go.Proofs.YtgehimcngljmnaaGreatDoor

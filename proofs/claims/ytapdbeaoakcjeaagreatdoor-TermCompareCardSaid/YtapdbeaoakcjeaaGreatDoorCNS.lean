/- Rat.IsInt, Num, Den, Sign of package exact; IsInt, Sign, Valid of package number. -/
import Derived.Test.YtapdbeaoakcjeaaGreatDoorCNI
import Derived.Lib.SmallJoins
import Derived.StillTailTactics
import Derived.Lib.AppendIntMem
import Derived.Test.YtapdbeaoakcjeaaGreatDoorCNC
import Derived.Lib.AppendStr
import Derived.Deep.CutBlock
import Derived.Deep.DeepCutAuto
import Derived.Deep.RegionHeld3
import Derived.Lib.BitFns
import Derived.Test.YtapdbeaoakcjeaaGreatDoorCShelf
import Derived.Deep.RegionWith
import Derived.Laws.AppendOwnNone
import Derived.Deep.LoopGhost
namespace Go.Proofs.YtapdbeaoakcjeaaGreatDoor
open Go.RowKit Nmx

theorem denI_zero (q : Rat) : decide (denI q = 0) = decide (q.den = 1) := by
  have := q.den_nz;unfold denI
  by_cases h : q.den = 1
  · rw [if_pos h]; simp [h]
  · rw [if_neg h]; simp [h]; exact this
theorem rv_form {w : World} {v : Value} {q : Rat} (h : RV w v q) : ∃ s1 b1 a1 n1 c1 s2 b2 a2 n2 c2, v = .agg #[.int .i64 s1, .bool b1, .slice a1 n1 c1, .int .i64 s2, .bool b2, .slice a2 n2 c2] ∧ IV w (.agg #[.int .i64 s1, .bool b1, .slice a1 n1 c1]) q.num ∧ IV w (.agg #[.int .i64 s2, .bool b2, .slice a2 n2 c2]) (denI q) := h
section
set_option maxRecDepth 100000
set_option maxHeartbeats 4000000
theorem ratIsInt_any (v : Value) (q : Rat) (w : World) (h : RV w v q) : Calls Tryz.prog 121 #[v] w fun e w' => e = .returned (.bool (decide (q.den = 1))) ∧ Below w.heap.size w w' := by
  obtain ⟨s1, b1, a1, n1, c1, s2, b2, a2, n2, c2, rfl, h1, h2⟩ := rv_form h;have hz := fun o => isZero_any _ _ _ (h2.alloc_of o)
  rw [denI_zero] at hz;clear h h1 h2
  go_enter Tryz.func121, Tryz.ntmps121
  go_wp2_with fail
  refine (hz _).mono ?_;rintro e w1 ⟨rfl, hb1⟩
  go_wp2
  go_ret
  exact ⟨rfl, ((Below.refl _ _).alloc (Nat.le_refl _) _).trans (hb1.mono (by simp))⟩
theorem ratSign_any (v : Value) (q : Rat) (w : World) (h : RV w v q) : Calls Tryz.prog 125 #[v] w fun e w' => e = .returned (.int .i64 (sgnI q.num)) ∧ Below w.heap.size w w' := by
  obtain ⟨s1, b1, a1, n1, c1, s2, b2, a2, n2, c2, rfl, h1, h2⟩ := rv_form h;have hz := fun o => sign_any _ _ _ (h1.alloc_of o)
  clear h h1 h2
  go_enter Tryz.func125, Tryz.ntmps125
  go_wp2_with fail
  refine (hz _).mono ?_;rintro e w1 ⟨rfl, hb1⟩
  go_wp2
  go_ret
  exact ⟨rfl, ((Below.refl _ _).alloc (Nat.le_refl _) _).trans (hb1.mono (by simp))⟩
theorem ratNum_any (v : Value) (q : Rat) (w : World) (h : RV w v q) : Calls Tryz.prog 182 #[v] w (GetsI q.num w) := by
  obtain ⟨s1, b1, a1, n1, c1, s2, b2, a2, n2, c2, rfl, h1, h2⟩ := rv_form h;have H1 := Lib.hid h1;clear h h1 h2
  go_enter Tryz.func182, Tryz.ntmps182
  go_wp2
  have hbl := below2 w (.cells #[.int .i64 s1, .bool b1, .slice a1 n1 c1, .int .i64 s2, .bool b2, .slice a2 n2 c2] 157) (.cells #[.int .i64 s1, .bool b1, .slice a1 n1 c1] 155);exact bodyPost_ret (v := .agg #[.int .i64 s1, .bool b1, .slice a1 n1 c1]) (by simp [results, Tryz.results182, go_sem]) rfl ⟨_, rfl, H1.out.far hbl, hbl⟩

/-- whatever Gcd is asked at the text's two integers, it does what it should -/
def GcdAt (l : List UInt8) : Prop := ∀ n d, canonF (upto l) = some n → canonF (behind l) = some d → 1 < d → GcdOk n d
/-- what the library's and the project's variables hold, as far as texts want it -/
structure Env (w : World) : Prop where
  big : 0 < w.heap.size
  len : ∃ m : Int, w.cell? ⟨0, 0, none⟩ = some (.int .i64 m)
  tab : Lib.TabIs Tryz.prog w "internal/strconv.uint64pow10" .u64 Lib.pow10Tab
theorem Env.far {w w1 : World} (h : Env w) (hb : Below w.heap.size w w1) : Env w1 :=
  ⟨Nat.lt_of_lt_of_le h.big hb.size, let ⟨m, hm⟩ := h.len; ⟨m, (hb.cell (p := ⟨0, 0, none⟩) h.big).trans hm⟩, Go.Joins.tab_stays (g := 5) (by kernel_rfl) h.tab hb (Nat.le_refl _)⟩
theorem parse_env (s : ByteArray) (w : World) (hs : s.size ≤ 18) (h : Env w) (hg : GcdAt s.data.toList) : Calls Tryz.prog 120 #[.string s] w (ParsePost s.data.toList w) := by
  obtain ⟨m, hm⟩ := h.len;exact parse_any m s w hs h.big hm hg

theorem numIsInt_any (s : ByteArray) (w : World) (hs : s.size ≤ 18) (h : Env w) (hg : GcdAt s.data.toList) : Calls Tryz.prog 76 #[.string s] w fun e w' => e = .returned (.bool (match ratF s.data.toList with | some q => decide (q.den = 1) | none => false)) ∧ Below w.heap.size w w' := by
  have hp := parse_env s w hs h hg;cases hq : ratF s.data.toList with
  | none =>
    unfold ParsePost at hp;rw [hq] at hp;clear hq
    go_enter Tryz.func76, Tryz.ntmps76
    go_wp2_with fail
    refine hp.mono ?_;rintro e w1 ⟨v, rfl, hv, hb1⟩;obtain ⟨s1, b1, a1, n1, c1, s2, b2, a2, n2, c2, rfl, h1, h2⟩ := rv_form hv;have HB := Lib.hid hb1;clear hv h1 h2 hp hb1
    go_wp2_with fail
    go_ret
    exact ⟨rfl, HB.out.alloc HB.out.size _⟩
  | some q =>
    unfold ParsePost at hp;rw [hq] at hp;clear hq
    go_enter Tryz.func76, Tryz.ntmps76
    go_wp2_with fail
    refine hp.mono ?_;rintro e w1 ⟨v, rfl, hv, hb1⟩;have hi := fun o => ratIsInt_any v q (w1.alloc o) (hv.far ((Below.refl _ _).alloc (Nat.le_refl _) _))
    obtain ⟨s1, b1, a1, n1, c1, s2, b2, a2, n2, c2, rfl, h1, h2⟩ := rv_form hv;have HB := Lib.hid hb1;clear hv h1 h2 hp hb1
    go_wp2_with fail
    refine (hi _).mono ?_;rintro e w2 ⟨rfl, hb2⟩;have HB2 := Lib.hid ((HB.out.alloc HB.out.size _).trans (hb2.mono (by have := HB.out.size; simp; omega)));clear hb2 hi
    go_wp2_with fail
    go_ret
    exact ⟨rfl, HB2.out⟩
theorem numSign_any (s : ByteArray) (w : World) (hs : s.size ≤ 18) (h : Env w) (hg : GcdAt s.data.toList) : Calls Tryz.prog 79 #[.string s] w fun e w' => e = .returned (.int .i64 (sgnI ((ratF s.data.toList).getD 0).num)) ∧ Below w.heap.size w w' := by
  have hp := parse_env s w hs h hg;unfold ParsePost at hp;generalize ratF s.data.toList = oq at *
  go_enter Tryz.func79, Tryz.ntmps79
  go_wp2_with fail
  refine hp.mono ?_;rintro e w1 ⟨v, rfl, hv, hb1⟩;have hi := fun o => ratSign_any v _ (w1.alloc o) (hv.far ((Below.refl _ _).alloc (Nat.le_refl _) _))
  obtain ⟨s1, b1, a1, n1, c1, s2, b2, a2, n2, c2, rfl, h1, h2⟩ := rv_form hv;have HB := Lib.hid hb1;clear hv h1 h2 hp hb1
  go_wp2_with fail
  refine (hi _).mono ?_;rintro e w2 ⟨rfl, hb2⟩;have HB2 := Lib.hid ((HB.out.alloc HB.out.size _).trans (hb2.mono (by have := HB.out.size; simp; omega)));clear hb2 hi
  go_wp2_with fail
  go_ret
  exact ⟨rfl, HB2.out⟩
end
end Go.Proofs.YtapdbeaoakcjeaaGreatDoor
namespace Go.Proofs.YtapdbeaoakcjeaaGreatDoor
open Go.RowKit Nmx

theorem cell_set6 {w : World} {R g : Nat} (h : g ≠ R) (x0 x1 x2 x3 x4 x5 : Value) (i : Nat) : ((((((w.setCell ⟨R, 0, none⟩ x0).setCell ⟨R, 1, none⟩ x1).setCell ⟨R, 2, none⟩ x2).setCell ⟨R, 3, none⟩ x3).setCell ⟨R, 4, none⟩ x4).setCell ⟨R, 5, none⟩ x5).cell? ⟨g, i, none⟩ = w.cell? ⟨g, i, none⟩ := by
  apply World.cell?_of_block;exact set6_other h x0 x1 x2 x3 x4 x5
def Dozen (w : World) (g h : Nat) (x0 x1 x2 x3 x4 x5 y0 y1 y2 y3 y4 y5 : Value) : Prop :=
  w.cell? ⟨g, 0, none⟩ = some x0 ∧ w.cell? ⟨g, 1, none⟩ = some x1 ∧ w.cell? ⟨g, 2, none⟩ = some x2 ∧ w.cell? ⟨g, 3, none⟩ = some x3 ∧ w.cell? ⟨g, 4, none⟩ = some x4 ∧ w.cell? ⟨g, 5, none⟩ = some x5 ∧ w.cell? ⟨h, 0, none⟩ = some y0 ∧ w.cell? ⟨h, 1, none⟩ = some y1 ∧ w.cell? ⟨h, 2, none⟩ = some y2 ∧ w.cell? ⟨h, 3, none⟩ = some y3 ∧ w.cell? ⟨h, 4, none⟩ = some y4 ∧ w.cell? ⟨h, 5, none⟩ = some y5
theorem Dozen.of {w : World} {g h : Nat} {x0 x1 x2 x3 x4 x5 y0 y1 y2 y3 y4 y5 : Value} {t t' : TypeId} (h1 : w.heap[g]? = some (.cells #[x0, x1, x2, x3, x4, x5] t (0, 0))) (h2 : w.heap[h]? = some (.cells #[y0, y1, y2, y3, y4, y5] t' (0, 0))) : Dozen w g h x0 x1 x2 x3 x4 x5 y0 y1 y2 y3 y4 y5 :=
  ⟨heap_cell h1 0, heap_cell h1 1, heap_cell h1 2, heap_cell h1 3, heap_cell h1 4, heap_cell h1 5, heap_cell h2 0, heap_cell h2 1, heap_cell h2 2, heap_cell h2 3, heap_cell h2 4, heap_cell h2 5⟩
theorem Dozen.set {w : World} {g h R : Nat} {x0 x1 x2 x3 x4 x5 y0 y1 y2 y3 y4 y5 : Value} (k : Dozen w g h x0 x1 x2 x3 x4 x5 y0 y1 y2 y3 y4 y5) (hg : g ≠ R) (hh : h ≠ R) (z0 z1 z2 z3 z4 z5 : Value) :
    Dozen ((((((w.setCell ⟨R, 0, none⟩ z0).setCell ⟨R, 1, none⟩ z1).setCell ⟨R, 2, none⟩ z2).setCell ⟨R, 3, none⟩ z3).setCell ⟨R, 4, none⟩ z4).setCell ⟨R, 5, none⟩ z5) g h x0 x1 x2 x3 x4 x5 y0 y1 y2 y3 y4 y5 := by
  obtain ⟨k0, k1, k2, k3, k4, k5, l0, l1, l2, l3, l4, l5⟩ := k
  exact ⟨(cell_set6 hg _ _ _ _ _ _ 0).trans k0, (cell_set6 hg _ _ _ _ _ _ 1).trans k1, (cell_set6 hg _ _ _ _ _ _ 2).trans k2, (cell_set6 hg _ _ _ _ _ _ 3).trans k3, (cell_set6 hg _ _ _ _ _ _ 4).trans k4, (cell_set6 hg _ _ _ _ _ _ 5).trans k5,
    (cell_set6 hh _ _ _ _ _ _ 0).trans l0, (cell_set6 hh _ _ _ _ _ _ 1).trans l1, (cell_set6 hh _ _ _ _ _ _ 2).trans l2, (cell_set6 hh _ _ _ _ _ _ 3).trans l3, (cell_set6 hh _ _ _ _ _ _ 4).trans l4, (cell_set6 hh _ _ _ _ _ _ 5).trans l5⟩
theorem RV.heap_same {w w' : World} {v : Value} {q : Rat} (h : RV w v q) {R : Nat} {cs : Array Value} {t : TypeId} {fr : Nat × Nat} (hR : w.heap[R]? = some (.cells cs t fr)) (ht : t ≠ 235) (ho : ∀ k, k ≠ R → w'.heap[k]? = w.heap[k]?) : RV w' v q :=
  let ⟨s1, b1, a1, n1, c1, s2, b2, a2, n2, c2, e, h1, h2⟩ := h
  ⟨s1, b1, a1, n1, c1, s2, b2, a2, n2, c2, e, h1.heap_same hR ht ho, h2.heap_same hR ht ho⟩

end Go.Proofs.YtapdbeaoakcjeaaGreatDoor
namespace Go.Proofs.YtapdbeaoakcjeaaGreatDoor
open Go.RowKit Nmx

end Go.Proofs.YtapdbeaoakcjeaaGreatDoor
namespace Go.Proofs.YtapdbeaoakcjeaaGreatDoor
open Go.RowKit Nmx

section
set_option maxRecDepth 100000
set_option maxHeartbeats 4000000
theorem intString_small (z : Int) (w : World) (h : Env w) (hz : Small z) : Calls Tryz.prog 208 #[smallV z] w fun e w' => e = .returned (.string ⟨(decI z).toArray⟩) ∧ Below w.heap.size w w' := by
  have kq0 := mag_eql0;have hbl : ∀ o : Obj, Below w.heap.size w (w.alloc o) := fun o => (Below.refl _ _).alloc (Nat.le_refl _) _
  have hf := fun o => Tryz.strconv_FormatInt_10 z (by have := hz.1; omega) (by have := hz.2; omega) (w.alloc o) (h.far (hbl o)).tab
  rw [itoa_eq] at hf;unfold smallV;clear h hz
  go_enter Tryz.func208, Tryz.ntmps208
  go_wp2_with fail
  refine (hf _).mono ?_;rintro e w1 ⟨rfl, k, os, hw⟩;have HB : Hid (Below w.heap.size (w.alloc (.cells #[.int .i64 z, .bool false, .slice none 0 0] 155)) w1) := Lib.hid (by rw [hw]; exact Lib.below_grow w.heap.size _ (by simp) k os);clear hw
  go_wp2
  go_ret
  exact ⟨rfl, (hbl _).trans HB.out⟩
end
end Go.Proofs.YtapdbeaoakcjeaaGreatDoor
namespace Go.Proofs.YtapdbeaoakcjeaaGreatDoor
open Go.RowKit Nmx

theorem den_get (q : Rat) : (if q.den = 1 then (1 : Int) else denI q) = q.den := by
  unfold denI
  by_cases h : q.den = 1
  · rw [if_pos h, h]; rfl
  · rw [if_neg h, if_neg h]

section
set_option maxRecDepth 100000
set_option maxHeartbeats 4000000
theorem ratDen_any (v : Value) (q : Rat) (w : World) (h : RV w v q) : Calls Tryz.prog 184 #[v] w (GetsI q.den w) := by
  obtain ⟨s1, b1, a1, n1, c1, s2, b2, a2, n2, c2, rfl, h1, h2⟩ := rv_form h;have HB0 := Lib.hid (below2 w (.cells #[.int .i64 s1, .bool b1, .slice a1 n1 c1, .int .i64 s2, .bool b2, .slice a2 n2 c2] 157) (.cells #[.int .i64 0, .bool false, .slice none 0 0] 155));have hz := isZero_any _ _ _ (h2.far HB0.out);rw [denI_zero] at hz;have H2 := Lib.hid h2;have HG := Lib.hid (den_get q);clear h h1 h2
  go_enter Tryz.func184, Tryz.ntmps184
  go_wp2_with fail
  refine hz.mono ?_;rintro e w1 ⟨rfl, hb1⟩;have HR1 := Lib.hid ((hb1.block w.heap.size (by simp; omega)).trans ((Below.heap_alloc _ _ _ (by simp)).trans (heap_alloc_new w _)));have HR2 := Lib.hid ((hb1.block (w.heap.size + 1) (by simp)).trans (new_second w _ _));have HB1 := Lib.hid (HB0.out.trans (hb1.mono (by simp; omega)));clear hb1 hz HB0
  by_cases hd : q.den = 1
  · have hdb : decide (q.den = 1) = true := by simpa using hd
    have hf := fromInt64_any 1 w1 (by omega) (by omega);have HE : Hid ((q.den : Int) = 1) := Lib.hid (by rw [hd]; rfl);clear hd HG
    go_wp2_with fail
    refine hf.mono ?_;rintro e w2 ⟨v2, rfl, hv2, hb2⟩;have HV2 := Lib.hid hv2;obtain ⟨s3, b3, a3, n3, c3, rfl⟩ := iv_form hv2;have HS2 := Lib.hid ((hb2.block _ (lt_of_heap HR2.out)).trans HR2.out);have HB2 := Lib.hid (HB1.out.trans (hb2.mono HB1.out.size));obtain ⟨r0, r1, r2, r3, r4, r5⟩ := Res.cells HS2.out;clear hv2 hb2 hf
    go_wp2
    rw [HE.out];exact end_int Tryz.results184 rfl rfl HS2.out HV2.out HB2.out (by omega)
  · have hdb : decide (q.den = 1) = false := by simpa using hd
    have HE : Hid ((q.den : Int) = denI q) := Lib.hid (by rw [← HG.out, if_neg hd]);obtain ⟨y0, y1, y2, y3, y4, y5, -⟩ := Dozen.of HR1.out HR1.out;obtain ⟨r0, r1, r2, r3, r4, r5⟩ := Res.cells HR2.out;clear hd HG
    go_wp2
    rw [HE.out];exact end_int Tryz.results184 rfl rfl HR2.out (H2.out.far HB1.out) HB1.out (by omega)
end
end Go.Proofs.YtapdbeaoakcjeaaGreatDoor
namespace Go.Proofs.YtapdbeaoakcjeaaGreatDoor
open Go.RowKit Nmx

def StrAt (z : Int) : Prop := ∀ (v : Value) (w : World), Env w → IV w v z → Calls Tryz.prog 208 #[v] w fun e w' => e = .returned (.string ⟨(decI z).toArray⟩) ∧ Below w.heap.size w w'
theorem textQ_den1 {q : Rat} (h : q.den = 1) : textQ q = decI q.num := by unfold textQ; rw [if_pos h, List.append_nil]
theorem textQ_den {q : Rat} (h : q.den ≠ 1) : textQ q = decI q.num ++ 47 :: decI q.den := by
  unfold textQ;rw [if_neg h, decI_nat]

theorem keep6 {a b : World} {g : Nat} {x0 x1 x2 x3 x4 x5 : Value} (hb : Below a.heap.size a b) (hg : g < a.heap.size)
    (h : a.cell? ⟨g, 0, none⟩ = some x0 ∧ a.cell? ⟨g, 1, none⟩ = some x1 ∧ a.cell? ⟨g, 2, none⟩ = some x2 ∧ a.cell? ⟨g, 3, none⟩ = some x3 ∧ a.cell? ⟨g, 4, none⟩ = some x4 ∧ a.cell? ⟨g, 5, none⟩ = some x5) :
    b.cell? ⟨g, 0, none⟩ = some x0 ∧ b.cell? ⟨g, 1, none⟩ = some x1 ∧ b.cell? ⟨g, 2, none⟩ = some x2 ∧ b.cell? ⟨g, 3, none⟩ = some x3 ∧ b.cell? ⟨g, 4, none⟩ = some x4 ∧ b.cell? ⟨g, 5, none⟩ = some x5 := by
  obtain ⟨k0, k1, k2, k3, k4, k5⟩ := h;have e := hb.block g hg;refine ⟨?_, ?_, ?_, ?_, ?_, ?_⟩ <;> simp only [World.cell?, e] at * <;> assumption

section
set_option maxRecDepth 100000
set_option maxHeartbeats 4000000
theorem ratString_int (v : Value) (q : Rat) (w : World) (h : RV w v q) (hE : Env w) (hn : StrAt q.num) (hd : q.den = 1) : Calls Tryz.prog 168 #[v] w fun e w' => e = .returned (.string ⟨(textQ q).toArray⟩) ∧ Below w.heap.size w w' := by
  obtain ⟨s1, b1, a1, n1, c1, s2, b2, a2, n2, c2, rfl, h1, h2⟩ := rv_form h;have hi := fun o => ratIsInt_any (.agg #[.int .i64 s1, .bool b1, .slice a1 n1 c1, .int .i64 s2, .bool b2, .slice a2 n2 c2]) q (w.alloc o) (h.far ((Below.refl _ _).alloc (Nat.le_refl _) o))
  have HB0 := Lib.hid ((Below.refl w.heap.size w).alloc (Nat.le_refl _) (.cells #[.int .i64 s1, .bool b1, .slice a1 n1 c1, .int .i64 s2, .bool b2, .slice a2 n2 c2] 157));have H1 := Lib.hid h1;have H2 := Lib.hid h2;have HE := Lib.hid hE;have HN := Lib.hid hn;clear h hE hn h1 h2
  go_enter Tryz.func168, Tryz.ntmps168
  go_wp2_with fail
  refine (hi _).mono ?_;rintro e w1 ⟨rfl, hb1⟩;have HR1 := Lib.hid ((hb1.block w.heap.size (by simp)).trans (heap_alloc_new w (.cells #[.int .i64 s1, .bool b1, .slice a1 n1 c1, .int .i64 s2, .bool b2, .slice a2 n2 c2] 157)));have HB1 := Lib.hid (HB0.out.trans (hb1.mono (by simp)));obtain ⟨y0, y1, y2, y3, y4, y5, -⟩ := Dozen.of HR1.out HR1.out;clear hb1 hi HB0;have hdb : decide (q.den = 1) = true := by simpa using hd
  have HT := Lib.hid (textQ_den1 hd);clear hd H2;have hs := HN.out (.agg #[.int .i64 s1, .bool b1, .slice a1 n1 c1]) w1 (HE.out.far HB1.out) (H1.out.far HB1.out)
  go_wp2_with fail
  refine hs.mono ?_;rintro e w2 ⟨rfl, hb2⟩;have HB2 := Lib.hid (HB1.out.trans (hb2.mono HB1.out.size));clear hb2 hs
  go_wp2
  go_ret
  exact ⟨by rw [HT.out]; rfl, HB2.out⟩
end
end Go.Proofs.YtapdbeaoakcjeaaGreatDoor
/- The reference's FromInt, at every int. -/
namespace Go.Proofs.YtapdbeaoakcjeaaGreatDoor
open Go.RowKit Nmx

/-- where the loop stands -/
def DecRel (n m : Nat) (acc : List UInt8) : Prop := (m ≠ 0 ∨ acc = [] → decN m ++ acc = decN n) ∧ (m = 0 → acc ≠ [] → acc = decN n)
theorem dec_start (n : Nat) : DecRel n n [] := ⟨fun _ => by simp, fun _ h => absurd rfl h⟩
theorem dec_step {n m : Nat} {acc : List UInt8} (h : DecRel n m acc) (hm : m ≠ 0 ∨ acc = []) : DecRel n (m / 10) (dg (m % 10) :: acc) := by
  have h1 := h.1 hm;refine ⟨fun h2 => ?_, fun h2 _ => ?_⟩
  · have : m / 10 ≠ 0 := by rcases h2 with h2 | h2; exact h2; cases h2
    rw [← h1, decN_big (n := m) (by omega)]; simp
  · have h10 : m < 10 := by omega
    rw [← h1, decN_small h10, Nat.mod_eq_of_lt h10]; rfl
theorem dec_len {n m : Nat} {acc : List UInt8} (h : DecRel n m acc) (hn : n ≤ 9223372036854775808) : acc.length ≤ 19 := by
  have := decN_len_le (n := n) (k := 19) (by omega) (by omega)
  by_cases hm : m ≠ 0 ∨ acc = []
  · have := congrArg List.length (h.1 hm); rw [List.length_append] at this; omega
  · have := h.2 (by omega) (by simp at hm; exact hm.2); rw [this]; omega
theorem conv_one (w : World) (c : UInt8) (k : Int) (hk : k = c.toNat) : Sem.run Tryz.prog (convert 79 9 (Value.slice (some { block := w.heap.size, off := 0 }) 1 1)) (w.alloc (.cells #[.int .u8 k] 5)) = .ok (.string ⟨#[c]⟩) (w.alloc (.cells #[.int .u8 k] 5)) := by
  subst hk;refine run_convert_bytes_back (P := Tryz.prog) _ 79 9 5 ⟨w.heap.size, 0, none⟩ 1 [c] Tryz.underlying79 Tryz.underlying5 Tryz.underlying9 ?_;intro j hj
  simp at hj
  subst hj;exact (World.news_of_block (cs := #[.int .u8 (c.toNat : Int)]) (t := 5) (fr := (0, 0)) (heap_alloc_new w _)) 0 _ (by simp)
theorem cons_app (c : UInt8) (acc : List UInt8) : (⟨#[c]⟩ : ByteArray) ++ ⟨acc.toArray⟩ = ⟨(c :: acc).toArray⟩ := by
  apply ByteArray.ext;rw [ByteArray.data_append];apply Array.toList_inj.1
  simp
section
set_option maxRecDepth 100000
set_option maxHeartbeats 4000000
theorem refFromInt_pos (n : Nat) (w : World) (hn : n ≤ 9223372036854775807) :
    Calls Tryz.prog 20 #[.int .i64 ((n : Int))] w fun e w' => e = .returned (.string ⟨(decI ((n : Int))).toArray⟩) ∧ Below w.heap.size w w' := by
  have HS : Hid (decI ((n : Int)) = decN n) := Lib.hid (decI_nat n)
  go_enter Tryz.func20, Tryz.ntmps20
  go_wp2
  generalize hb : w.heap.size = b at *;have HB := Lib.hid hb;clear hb
  go_loopw [3, 4] (fun sv v wr => ∃ (m : Nat) (acc : List UInt8), m ≤ n ∧ v = .int .i64 ((m : Int)) ∧ sv = .string ⟨acc.toArray⟩ ∧ Below b w wr ∧ DecRel n m acc)
    (fun sv v _ => (intOf v).natAbs + (match sv with | .string t => if t.size = 0 then 1 else 0 | _ => 0))
  case atStart => exact ⟨n, [], Nat.le_refl _, rfl, rfl, Below.refl _ _, dec_start n⟩
  case round =>
    obtain ⟨m, acc, hm, rfl, rfl, hbel, hd⟩ := hrel;have hlen := dec_len hd (by omega);have HW := Lib.hid hbel;have HD := Lib.hid hd;have hsz := hbel.size;clear hbel hd;have HT1 : Int.tmod ((m : Int)) 10 = ((m % 10 : Nat) : Int) := by rw [Int.tmod_eq_emod_of_nonneg (by omega)]; rfl
    have HT2 : Int.tdiv ((m : Int)) 10 = ((m / 10 : Nat) : Int) := by rw [Int.tdiv_eq_ediv_of_nonneg (by omega)]; rfl
    have hd10 : m % 10 < 10 := Nat.mod_lt _ (by omega)
    by_cases hm0 : m = 0
    · subst hm0
      by_cases ha : acc = []
      · subst ha;have HN := Lib.hid (dec_step HD.out (.inr rfl));have hcv := conv_one wr (dg 0) 48 (by decide)
        go_wp2
        refine ⟨⟨0, [dg 0], Nat.zero_le _, rfl, rfl, HW.out.alloc (by have := HB.out; omega) _, ?_⟩, ?_⟩
        · exact HN.out
        · simp [intOf]; decide
      · have HF := Lib.hid (HD.out.2 rfl ha);have hne : acc.isEmpty = false := by simpa using ha
        go_wp2
        go_ret
        exact ⟨ret_str (by rw [HS.out, HF.out]), by rw [HB.out]; exact HW.out⟩
    · have hmb : (((m : Int)) != 0) = true := by simp; omega
      have HN := Lib.hid (dec_step HD.out (.inl hm0));obtain ⟨r, hr⟩ : ∃ r, m % 10 = r := ⟨_, rfl⟩
      obtain ⟨q, hq⟩ : ∃ q, m / 10 = q := ⟨_, rfl⟩
      have hqm : q ≤ m := by omega
      have hql : q < m := by omega
      rw [hr] at HT1 hd10;rw [hq] at HT2;rw [hr, hq] at HN;have hcv := conv_one wr (dg r) (48 + (r : Int)) (by rw [dg_toNat hd10]; omega);have hmr : (m : Int) % 10 = (r : Int) := by omega
      have hmq : (m : Int) / 10 = (q : Int) := by omega
      clear hr hq
      go_wp2
      refine ⟨⟨q, dg r :: acc, by omega, by go_num, congrArg Value.string (cons_app _ _), HW.out.alloc (by have := HB.out; omega) _, HN.out⟩, ?_⟩;rw [cons_app]
      simp [intOf, ByteArray.size]
      omega
theorem refFromInt_neg (n : Nat) (w : World) (hn : n ≤ 9223372036854775808) (hp : 0 < n) :
    Calls Tryz.prog 20 #[.int .i64 (-(n : Int))] w fun e w' => e = .returned (.string ⟨(decI (-(n : Int))).toArray⟩) ∧ Below w.heap.size w w' := by
  have HS : Hid (decI (-(n : Int)) = 45 :: decN n) := Lib.hid (decI_neg n hp);have hlt : -(n : Int) < 0 := by omega
  go_enter Tryz.func20, Tryz.ntmps20
  go_wp2
  generalize hb : w.heap.size = b at *;have HB := Lib.hid hb;clear hb
  go_loopw [3, 4] (fun sv v wr => ∃ (m : Nat) (acc : List UInt8), m ≤ n ∧ v = .int .i64 (-(m : Int)) ∧ sv = .string ⟨acc.toArray⟩ ∧ Below b w wr ∧ DecRel n m acc)
    (fun sv v _ => (intOf v).natAbs + (match sv with | .string t => if t.size = 0 then 1 else 0 | _ => 0))
  case atStart => exact ⟨n, [], Nat.le_refl _, rfl, rfl, Below.refl _ _, dec_start n⟩
  case round =>
    obtain ⟨m, acc, hm, rfl, rfl, hbel, hd⟩ := hrel;have hlen := dec_len hd (by omega);have HW := Lib.hid hbel;have HD := Lib.hid hd;have hsz := hbel.size;clear hbel hd;have HT1 : Int.tmod (-(m : Int)) 10 = -((m % 10 : Nat) : Int) := by rw [Int.neg_tmod, Int.tmod_eq_emod_of_nonneg (by omega)]; rfl
    have HT2 : Int.tdiv (-(m : Int)) 10 = -((m / 10 : Nat) : Int) := by rw [Int.neg_tdiv, Int.tdiv_eq_ediv_of_nonneg (by omega)]; rfl
    have hd10 : m % 10 < 10 := Nat.mod_lt _ (by omega)
    by_cases hm0 : m = 0
    · subst hm0
      by_cases ha : acc = []
      · subst ha;have HN := Lib.hid (dec_step HD.out (.inr rfl));have hcv := conv_one wr (dg 0) 48 (by decide)
        exfalso
        have h1 := HD.out.1 (.inr rfl);rw [List.append_nil] at h1;have := decN_inj h1
        omega
      · have HF := Lib.hid (HD.out.2 rfl ha);have hne : acc.isEmpty = false := by simpa using ha
        go_wp2
        go_ret
        exact ⟨ret_str (by rw [HS.out, HF.out]; exact cons_app 45 (decN n)), by rw [HB.out]; exact HW.out⟩
    · have hmb : ((-(m : Int)) != 0) = true := by simp; omega
      have HN := Lib.hid (dec_step HD.out (.inl hm0));obtain ⟨r, hr⟩ : ∃ r, m % 10 = r := ⟨_, rfl⟩
      obtain ⟨q, hq⟩ : ∃ q, m / 10 = q := ⟨_, rfl⟩
      have hqm : q ≤ m := by omega
      have hql : q < m := by omega
      rw [hr] at HT1 hd10;rw [hq] at HT2;rw [hr, hq] at HN;have hcv := conv_one wr (dg r) (48 + (r : Int)) (by rw [dg_toNat hd10]; omega);have hmr : (m : Int) % 10 = (r : Int) := by omega
      have hmq : (m : Int) / 10 = (q : Int) := by omega
      clear hr hq
      by_cases hr0 : r = 0
      · subst hr0;have hcv0 := conv_one wr (dg 0) 48 (by decide)
        go_wp2
        refine ⟨⟨q, dg 0 :: acc, by omega, rfl, congrArg Value.string (cons_app _ _), HW.out.alloc (by have := HB.out; omega) _, HN.out⟩, ?_⟩;rw [cons_app]
        simp [intOf, ByteArray.size]
        omega
      · have hrn : -(r : Int) < 0 := by omega
        go_wp2
        refine ⟨⟨q, dg r :: acc, by omega, rfl, congrArg Value.string (cons_app _ _), HW.out.alloc (by have := HB.out; omega) _, HN.out⟩, ?_⟩;rw [cons_app]
        simp [intOf, ByteArray.size]
        omega
theorem refFromInt_any (z : Int) (w : World) (h1 : -9223372036854775808 ≤ z) (h2 : z ≤ 9223372036854775807) :
    Calls Tryz.prog 20 #[.int .i64 z] w fun e w' => e = .returned (.string ⟨(decI z).toArray⟩) ∧ Below w.heap.size w w' := by
  by_cases hz : z < 0
  · have := refFromInt_neg z.natAbs w (by omega) (by omega);rw [show -(z.natAbs : Int) = z by omega] at this;exact this
  · have := refFromInt_pos z.natAbs w (by omega);rw [show (z.natAbs : Int) = z by omega] at this;exact this
end
end Go.Proofs.YtapdbeaoakcjeaaGreatDoor
namespace Nmx

/-- the chunks c have come off N, the words l are left -/
structure ChR (N : Nat) (l c : List Nat) : Prop where
  nl : Norm l
  lt : ∀ x ∈ c, x < 1000000000
  val : chunksV c + 1000000000 ^ c.length * wv l = N
  last : l = [] → c ≠ [] ∧ c.getLastD 0 ≠ 0
theorem ChR.start {l : List Nat} (h : Norm l) (h0 : l ≠ []) : ChR (wv l) l [] :=
  ⟨h, fun x hx => absurd hx (by simp), by simp [chunksV], fun e => absurd e h0⟩
theorem wv_pos_of {l : List Nat} (h : Norm l) (h0 : l ≠ []) : 0 < wv l := by
  rcases Nat.eq_zero_or_pos (wv l) with h1 | h1
  · exact absurd (norm_zero l h h1) h0
  · exact h1
theorem ChR.step {N : Nat} {l c q : List Nat} {r : Nat} (h : ChR N l c) (h0 : l ≠ []) (hq : wv q = wv l / 1000000000) (hr : r = wv l % 1000000000) (hw : Ws q) : ChR N (trimW q) (c ++ [r]) := by
  have hp := wv_pos_of h.nl h0;have hd := Nat.mod_add_div (wv l) 1000000000
  constructor
  · exact trimW_norm q hw
  · intro x hx;rw [List.mem_append, List.mem_singleton] at hx;rcases hx with hx | hx
    · exact h.lt x hx
    · rw [hx, hr]; exact Nat.mod_lt _ (by omega)
  · rw [chunksV_snoc, trimW_wv, hq, List.length_append, List.length_singleton, Nat.pow_succ, Nat.mul_assoc, hr, Nat.add_assoc, ← Nat.mul_add, hd];exact h.val
  · intro e;have : wv q = 0 := by rw [← trimW_wv, e]; rfl
    refine ⟨by simp, ?_⟩
    simp
    omega
theorem ChR.few {N : Nat} {l c : List Nat} (h : ChR N l c) (h0 : l ≠ []) {L : Nat} (hN : N < BB ^ L) : c.length < 32 * L := by
  have hp := wv_pos_of h.nl h0;have h1 := h.val;have h2 : 1000000000 ^ c.length * 1 ≤ 1000000000 ^ c.length * wv l := Nat.mul_le_mul_left _ hp;have h3 : 2 ^ c.length ≤ 1000000000 ^ c.length := Nat.pow_le_pow_left (by omega) _;have h4 : BB ^ L = 2 ^ (32 * L) := by rw [BB_eq, Nat.pow_mul]
  rw [h4] at hN;exact (Nat.pow_lt_pow_iff_right (by omega : 1 < 2)).1 (by omega)
theorem ChR.done {N : Nat} {c : List Nat} (h : ChR N [] c) : chunksT c = decN N ∧ c ≠ [] := by
  obtain ⟨h1, h2⟩ := h.last rfl;have h3 := h.val;rw [wv_nil, Nat.mul_zero, Nat.add_zero] at h3;rw [← h3];exact ⟨(chunksT_eq c h1 h.lt h2).1, h1⟩
end Nmx
namespace Go.Proofs.YtapdbeaoakcjeaaGreatDoor
open Go.RowKit Nmx

theorem own_below {w w1 : World} {b : Nat} {t : TypeId} {sz : Nat} {v : Value} {n : Nat} {xs : List Value} (h : w.ownsRow b t sz v n xs) {B : Nat} (hb : Below B w w1) (hB : w.heap.size ≤ B) : w1.ownsRow b t sz v n xs := by
  obtain ⟨hx, h | ⟨g, cap, cur, hv, hg, hh, r⟩⟩ := h
  · exact ⟨hx, .inl h⟩
  · exact ⟨hx, .inr ⟨g, cap, cur, hv, hg, (hb.block g (by have := lt_of_heap hh; omega)).trans hh, r⟩⟩
theorem WS.news {w : World} {g off cap : Nat} {l : List Nat} (h : WS w (some ⟨g, off, none⟩) g off cap l) : ∀ j u, (u32s l)[j]? = some u → w.cell? ((⟨g, off, none⟩ : Addr).add j) = some u := by
  intro j u hu;have hj : j < l.length := by have := (List.getElem?_eq_some_iff.1 hu).1; rwa [u32s_len] at this
  rw [u32s_at l j hj] at hu;cases hu
  rw [Addr.add_lit];exact h.at_ j hj
/-- bytes as cells -/
def bcs (l : List UInt8) : List Value := l.map fun b => Value.int .u8 (b.toNat : Int)
theorem infoU8 : (Tryz.prog.info? 5).map (fun i => (i.zero, i.size, i.bytes)) = some (some (.int .u8 0), 1, 1) := by kernel_rfl
theorem sz_txt (l : List UInt8) : (⟨l.toArray⟩ : ByteArray).size = l.length := by simp [ByteArray.size]

section
set_option maxRecDepth 100000
set_option maxHeartbeats 4000000
theorem strAt_small {z : Int} (hz : Small z) : StrAt z := fun v w h hv => by
  rw [iv_small hv hz];exact intString_small z w h hz
end
end Go.Proofs.YtapdbeaoakcjeaaGreatDoor
namespace Go.Proofs.YtapdbeaoakcjeaaGreatDoor
open Go.RowKit Nmx

section
set_option maxRecDepth 100000
set_option maxHeartbeats 4000000
theorem ratString_frac (v : Value) (q : Rat) (w : World) (h : RV w v q) (hE : Env w) (hd : q.den ≠ 1) (hsn : StrAt q.num) (hsd : StrAt q.den) (hsz : (decI q.num).length + (decI q.den).length ≤ 1000000000) : Calls Tryz.prog 168 #[v] w fun e w' => e = .returned (.string ⟨(textQ q).toArray⟩) ∧ Below w.heap.size w w' := by
  obtain ⟨s1, b1, a1, n1, c1, s2, b2, a2, n2, c2, rfl, h1, h2⟩ := rv_form h;have hi := fun o => ratIsInt_any (.agg #[.int .i64 s1, .bool b1, .slice a1 n1 c1, .int .i64 s2, .bool b2, .slice a2 n2 c2]) q (w.alloc o) (h.far ((Below.refl _ _).alloc (Nat.le_refl _) o))
  have HB0 := Lib.hid ((Below.refl w.heap.size w).alloc (Nat.le_refl _) (.cells #[.int .i64 s1, .bool b1, .slice a1 n1 c1, .int .i64 s2, .bool b2, .slice a2 n2 c2] 157));have hdd : denI q = q.den := by unfold denI; rw [if_neg hd]
  rw [hdd] at h2;have hn := fun W (hW : Below w.heap.size w W) => hsn _ W (hE.far hW) (h1.far hW)
  have hm := fun W (hW : Below w.heap.size w W) => hsd _ W (hE.far hW) (h2.far hW)
  have HT := Lib.hid (textQ_den hd);have hdb : decide (q.den = 1) = false := by simpa using hd
  have hs1 : (⟨(decI q.num).toArray⟩ : ByteArray).size = (decI q.num).length := sz_txt _;have hs2 : (⟨(decI q.den).toArray⟩ : ByteArray).size = (decI q.den).length := sz_txt _
  have HS : Hid ((⟨(decI q.num).toArray⟩ : ByteArray) ++ ⟨#[47]⟩ ++ ⟨(decI q.den).toArray⟩ = ⟨(textQ q).toArray⟩) := Lib.hid (by
    rw [textQ_den hd];apply ByteArray.ext;rw [ByteArray.data_append, ByteArray.data_append];apply Array.toList_inj.1
    simp)
  rw [← hs1, ← hs2] at hsz;generalize (⟨(decI q.num).toArray⟩ : ByteArray) = t1 at *;generalize (⟨(decI q.den).toArray⟩ : ByteArray) = t2 at *;have f1 : ¬ (9223372036854775807 ≤ t1.size) := by omega
  have f3 : ¬ (9223372036854775807 < t1.size + 1) := by omega
  have f4 : t1.size < 9223372036854775807 := by omega
  have f2 : ¬ (9223372036854775807 < t1.size + 1 + t2.size) := by omega
  clear h hE h1 h2 hdd hs1 hs2 hsz hd hsn hsd
  go_enter Tryz.func168, Tryz.ntmps168
  go_wp2_with fail
  refine (hi _).mono ?_;rintro e w1 ⟨rfl, hb1⟩;have HR1 := Lib.hid ((hb1.block w.heap.size (by simp)).trans (heap_alloc_new w (.cells #[.int .i64 s1, .bool b1, .slice a1 n1 c1, .int .i64 s2, .bool b2, .slice a2 n2 c2] 157)));have HB1 := Lib.hid (HB0.out.trans (hb1.mono (by simp)));obtain ⟨y0, y1, y2, y3, y4, y5, -⟩ := Dozen.of HR1.out HR1.out;clear hb1 hi HB0;have hlt1 := lt_of_heap HR1.out
  go_wp2
  go_region_held3 (fun w' => w'.cell? ⟨w.heap.size, 0, none⟩ = some (.int .i64 s1) ∧ w'.cell? ⟨w.heap.size, 1, none⟩ = some (.bool b1) ∧ w'.cell? ⟨w.heap.size, 2, none⟩ = some (.slice a1 n1 c1) ∧ w'.cell? ⟨w.heap.size, 3, none⟩ = some (.int .i64 s2) ∧ w'.cell? ⟨w.heap.size, 4, none⟩ = some (.bool b2) ∧ w'.cell? ⟨w.heap.size, 5, none⟩ = some (.slice a2 n2 c2))
    (first | exact ⟨y0, y1, y2, y3, y4, y5⟩ | exact K1 | exact K2 | go_keep)
    (first
      | (go_at_call 208
         first
         | (with_reducible refine (hn _ HB1.out.drew).mono ?_
            rintro e w2 ⟨rfl, hb2⟩;have HB2 := Lib.hid (HB1.out.drew.trans (hb2.mono HB1.out.size))
            have K1 := keep6 (show Below w1.drew.heap.size w1.drew w2 from hb2) hlt1 ⟨y0, y1, y2, y3, y4, y5⟩)
         | (with_reducible refine (hm _ HB2.out).mono ?_
            rintro e w3 ⟨rfl, hb3⟩;have HB3 := Lib.hid (HB2.out.trans (hb3.mono HB2.out.size))
            have K2 := keep6 hb3 (Nat.lt_of_lt_of_le hlt1 hb2.size) K1)))
  all_goals go_wp2
  all_goals go_ret
  all_goals exact ⟨ret_str HS.out, HB3.out⟩
theorem ratString_any (v : Value) (q : Rat) (w : World) (h : RV w v q) (hE : Env w) (hsn : StrAt q.num) (hsd : StrAt q.den) (hsz : (decI q.num).length + (decI q.den).length ≤ 1000000000) : Calls Tryz.prog 168 #[v] w fun e w' => e = .returned (.string ⟨(textQ q).toArray⟩) ∧ Below w.heap.size w w' := by
  by_cases hd : q.den = 1
  · exact ratString_int v q w h hE hsn hd
  · exact ratString_frac v q w h hE hd hsn hsd hsz
end
end Go.Proofs.YtapdbeaoakcjeaaGreatDoor
/- Rat.Add of package exact. -/
namespace Go.Proofs.YtapdbeaoakcjeaaGreatDoor
open Go.RowKit Nmx

theorem denI_one {q : Rat} (h : q.den = 1) : denI q = 0 := by unfold denI; rw [if_pos h]

end Go.Proofs.YtapdbeaoakcjeaaGreatDoor
namespace Go.Proofs.YtapdbeaoakcjeaaGreatDoor
open Go.RowKit Nmx

end Go.Proofs.YtapdbeaoakcjeaaGreatDoor
namespace Go.Proofs.YtapdbeaoakcjeaaGreatDoor
open Go.RowKit Nmx

section
set_option maxRecDepth 100000
set_option maxHeartbeats 4000000
theorem numValid_any (s : ByteArray) (w : World) (hs : s.size ≤ 18) (h : Env w) (hg : GcdAt s.data.toList) : Calls Tryz.prog 75 #[.string s] w fun e w' => e = .returned (.bool (ratF s.data.toList).isSome) ∧ Below w.heap.size w w' := by
  have hp := parse_env s w hs h hg;unfold ParsePost at hp;generalize ratF s.data.toList = oq at *
  go_enter Tryz.func75, Tryz.ntmps75
  go_wp2_with fail
  refine hp.mono ?_;rintro e w1 ⟨v, rfl, hv, hb1⟩;obtain ⟨s1, b1, a1, n1, c1, s2, b2, a2, n2, c2, rfl, -, -⟩ := rv_form hv;have HB := Lib.hid hb1;clear hv hp hb1
  go_wp2
  go_ret
  exact ⟨rfl, HB.out.alloc HB.out.size _⟩
end
end Go.Proofs.YtapdbeaoakcjeaaGreatDoor
namespace Go.Proofs.YtapdbeaoakcjeaaGreatDoor
open Go.RowKit Nmx

end Go.Proofs.YtapdbeaoakcjeaaGreatDoor
namespace Go.Proofs.YtapdbeaoakcjeaaGreatDoor
open Go.RowKit Nmx

end Go.Proofs.YtapdbeaoakcjeaaGreatDoor
namespace Go.Proofs.YtapdbeaoakcjeaaGreatDoor
open Go.RowKit Nmx

end Go.Proofs.YtapdbeaoakcjeaaGreatDoor
/- shiftLeft, shiftRight of package exact. -/
namespace Go.Proofs.YtapdbeaoakcjeaaGreatDoor
open Go.RowKit Nmx

end Go.Proofs.YtapdbeaoakcjeaaGreatDoor
namespace Go.Proofs.YtapdbeaoakcjeaaGreatDoor
open Go.RowKit Nmx

end Go.Proofs.YtapdbeaoakcjeaaGreatDoor
/- longDivision, divWords of package exact. -/
namespace Go.Proofs.YtapdbeaoakcjeaaGreatDoor
open Go.RowKit Nmx

end Go.Proofs.YtapdbeaoakcjeaaGreatDoor
namespace Go.Proofs.YtapdbeaoakcjeaaGreatDoor
open Go.RowKit Nmx

end Go.Proofs.YtapdbeaoakcjeaaGreatDoor
namespace Go.Proofs.YtapdbeaoakcjeaaGreatDoor
open Go.RowKit Nmx

end Go.Proofs.YtapdbeaoakcjeaaGreatDoor
/- QuoRem of package exact at integers that are not both small. -/
namespace Go.Proofs.YtapdbeaoakcjeaaGreatDoor
open Go.RowKit Nmx

section
set_option maxRecDepth 100000
set_option maxHeartbeats 40000000
theorem IV.drewN {w : World} {v : Value} {z : Int} (h : IV w v z) (n : Nat) : IV (w.drewN n) v z := h.far (below_drewN (Below.refl _ _) n)
theorem IV.drew {w : World} {v : Value} {z : Int} (h : IV w v z) : IV w.drew v z := h.far (Below.refl _ _).drew
end
end Go.Proofs.YtapdbeaoakcjeaaGreatDoor
/- Gcd of package exact. -/
namespace Go.Proofs.YtapdbeaoakcjeaaGreatDoor
open Go.RowKit Nmx

/-- two integers in blocks B and B + 1, a result in block B + 2 -/
structure GX (w wx : World) (x0 x1 x2 y0 y1 y2 : Value) : Prop where
  ha : wx.heap[w.heap.size]? = some (.cells #[x0, x1, x2] 155 (0, 0))
  hb : wx.heap[w.heap.size + 1]? = some (.cells #[y0, y1, y2] 155 (0, 0))
  hr : wx.heap[w.heap.size + 2]? = some (.cells #[.int .i64 0, .bool false, .slice none 0 0] 155 (0, 0))
  bel : Below w.heap.size w wx
theorem GX.far {w wx w1 : World} {x0 x1 x2 y0 y1 y2 : Value} (h : GX w wx x0 x1 x2 y0 y1 y2) (hb : Below wx.heap.size wx w1) : GX w w1 x0 x1 x2 y0 y1 y2 :=
  ⟨(hb.block _ (lt_of_heap h.ha)).trans h.ha, (hb.block _ (lt_of_heap h.hb)).trans h.hb, (hb.block _ (lt_of_heap h.hr)).trans h.hr, h.bel.trans (hb.mono h.bel.size)⟩
theorem GX.drewN {w wx : World} {x0 x1 x2 y0 y1 y2 : Value} (h : GX w wx x0 x1 x2 y0 y1 y2) (n : Nat) : GX w (wx.drewN n) x0 x1 x2 y0 y1 y2 := ⟨h.ha, h.hb, h.hr, below_drewN h.bel n⟩
theorem GX.drew {w wx : World} {x0 x1 x2 y0 y1 y2 : Value} (h : GX w wx x0 x1 x2 y0 y1 y2) : GX w wx.drew x0 x1 x2 y0 y1 y2 := ⟨h.ha, h.hb, h.hr, h.bel.drew⟩
theorem GX.new (w : World) (x0 x1 x2 y0 y1 y2 : Value) (o2 : Obj) (h2 : o2 = .cells #[.int .i64 0, .bool false, .slice none 0 0] 155) :
    GX w (((w.alloc (.cells #[x0, x1, x2] 155)).alloc (.cells #[y0, y1, y2] 155)).alloc o2) x0 x1 x2 y0 y1 y2 := by
  subst h2;obtain ⟨h1, h2, h3⟩ := new3 w (.cells #[x0, x1, x2] 155) (.cells #[y0, y1, y2] 155) (.cells #[.int .i64 0, .bool false, .slice none 0 0] 155);exact ⟨h1, h2, h3, below3 w _ _ _⟩
theorem GX.cells {w wx : World} {x0 x1 x2 y0 y1 y2 : Value} (h : GX w wx x0 x1 x2 y0 y1 y2) : (wx.cell? ⟨w.heap.size, 0, none⟩ = some x0 ∧ wx.cell? ⟨w.heap.size, 1, none⟩ = some x1 ∧ wx.cell? ⟨w.heap.size, 2, none⟩ = some x2) ∧ (wx.cell? ⟨w.heap.size + 1, 0, none⟩ = some y0 ∧ wx.cell? ⟨w.heap.size + 1, 1, none⟩ = some y1 ∧ wx.cell? ⟨w.heap.size + 1, 2, none⟩ = some y2) ∧ (∀ i, wx.frozen? ⟨w.heap.size, i, none⟩ = false) ∧ (∀ i, wx.frozen? ⟨w.heap.size + 1, i, none⟩ = false) :=
  ⟨⟨heap_cell h.ha 0, heap_cell h.ha 1, heap_cell h.ha 2⟩, ⟨heap_cell h.hb 0, heap_cell h.hb 1, heap_cell h.hb 2⟩, fun i => heap_fz h.ha i, fun i => heap_fz h.hb i⟩
theorem GX.res {w wx : World} {x0 x1 x2 y0 y1 y2 : Value} (h : GX w wx x0 x1 x2 y0 y1 y2) : (wx.cell? ⟨w.heap.size + 1 + 1, 0, none⟩ = some (.int .i64 0) ∧ wx.cell? ⟨w.heap.size + 1 + 1, 1, none⟩ = some (.bool false) ∧ wx.cell? ⟨w.heap.size + 1 + 1, 2, none⟩ = some (.slice none 0 0)) ∧ (∀ i, wx.frozen? ⟨w.heap.size + 1 + 1, i, none⟩ = false) :=
  ⟨⟨heap_cell h.hr 0, heap_cell h.hr 1, heap_cell h.hr 2⟩, fun i => heap_fz h.hr i⟩
end Go.Proofs.YtapdbeaoakcjeaaGreatDoor
namespace Go.Proofs.YtapdbeaoakcjeaaGreatDoor
open Go.RowKit Nmx

end Go.Proofs.YtapdbeaoakcjeaaGreatDoor
/- Rat.Neg, Abs, Sub, Mul, Div of package exact. -/
namespace Go.Proofs.YtapdbeaoakcjeaaGreatDoor
open Go.RowKit Nmx

/-- a rational number that came in, in block B, and a result in block B + 1 -/
structure OneR (w wx : World) (x0 x1 x2 x3 x4 x5 : Value) : Prop where
  ha : wx.heap[w.heap.size]? = some (.cells #[x0, x1, x2, x3, x4, x5] 157 (0, 0))
  hr : wx.heap[w.heap.size + 1]? = some (.cells #[.int .i64 0, .bool false, .slice none 0 0, .int .i64 0, .bool false, .slice none 0 0] 157 (0, 0))
  bel : Below w.heap.size w wx
theorem OneR.far {w wx w1 : World} {x0 x1 x2 x3 x4 x5 : Value} (h : OneR w wx x0 x1 x2 x3 x4 x5) (hb : Below wx.heap.size wx w1) : OneR w w1 x0 x1 x2 x3 x4 x5 :=
  ⟨(hb.block _ (lt_of_heap h.ha)).trans h.ha, (hb.block _ (lt_of_heap h.hr)).trans h.hr, h.bel.trans (hb.mono h.bel.size)⟩
theorem OneR.drew {w wx : World} {x0 x1 x2 x3 x4 x5 : Value} (h : OneR w wx x0 x1 x2 x3 x4 x5) : OneR w wx.drew x0 x1 x2 x3 x4 x5 := ⟨h.ha, h.hr, h.bel.drew⟩
theorem OneR.cells {w wx : World} {x0 x1 x2 x3 x4 x5 : Value} (h : OneR w wx x0 x1 x2 x3 x4 x5) : wx.cell? ⟨w.heap.size, 0, none⟩ = some x0 ∧ wx.cell? ⟨w.heap.size, 1, none⟩ = some x1 ∧ wx.cell? ⟨w.heap.size, 2, none⟩ = some x2 ∧ wx.cell? ⟨w.heap.size, 3, none⟩ = some x3 ∧ wx.cell? ⟨w.heap.size, 4, none⟩ = some x4 ∧ wx.cell? ⟨w.heap.size, 5, none⟩ = some x5 :=
  ⟨heap_cell h.ha 0, heap_cell h.ha 1, heap_cell h.ha 2, heap_cell h.ha 3, heap_cell h.ha 4, heap_cell h.ha 5⟩
theorem OneR.new (w : World) (x0 x1 x2 x3 x4 x5 : Value) (o : Obj) (ho : o = .cells #[.int .i64 0, .bool false, .slice none 0 0, .int .i64 0, .bool false, .slice none 0 0] 157) : OneR w ((w.alloc (.cells #[x0, x1, x2, x3, x4, x5] 157)).alloc o) x0 x1 x2 x3 x4 x5 := by
  subst ho;exact ⟨(Below.heap_alloc _ _ _ (by simp)).trans (heap_alloc_new w _), new_second w _ _, below2 w _ _⟩
theorem denI_neg (q : Rat) : denI (-q) = denI q := rfl
section
set_option maxRecDepth 100000
set_option maxHeartbeats 4000000
theorem ratNeg_any (x : Value) (p : Rat) (w : World) (hx : RV w x p) : Calls Tryz.prog 179 #[x] w (GetsQ (-p) w) := by
  obtain ⟨s1, b1, a1, n1, c1, s2, b2, a2, n2, c2, rfl, h1, h2⟩ := rv_form hx;have H1 := Lib.hid h1;have H2 := Lib.hid h2;have HT := Lib.hid (OneR.new w (.int .i64 s1) (.bool b1) (.slice a1 n1 c1) (.int .i64 s2) (.bool b2) (.slice a2 n2 c2) _ rfl);have K0 := Lib.hid HT.out.drew.cells;have hne1 : w.heap.size ≠ w.heap.size + 1 := by omega
  clear hx h1 h2
  go_enter Tryz.func179, Tryz.ntmps179
  go_wp2
  go_region_held3 (fun w' => w'.cell? ⟨w.heap.size, 0, none⟩ = some (.int .i64 s1) ∧ w'.cell? ⟨w.heap.size, 1, none⟩ = some (.bool b1) ∧ w'.cell? ⟨w.heap.size, 2, none⟩ = some (.slice a1 n1 c1) ∧ w'.cell? ⟨w.heap.size, 3, none⟩ = some (.int .i64 s2) ∧ w'.cell? ⟨w.heap.size, 4, none⟩ = some (.bool b2) ∧ w'.cell? ⟨w.heap.size, 5, none⟩ = some (.slice a2 n2 c2))
    (first | with_reducible exact K1.out | with_reducible exact K0.out | (obtain ⟨k0, k1, k2, k3, k4, k5⟩ := K1.out; exact ⟨(cell_set6 hne1 _ _ _ _ _ _ 0).trans k0, (cell_set6 hne1 _ _ _ _ _ _ 1).trans k1, (cell_set6 hne1 _ _ _ _ _ _ 2).trans k2, (cell_set6 hne1 _ _ _ _ _ _ 3).trans k3, (cell_set6 hne1 _ _ _ _ _ _ 4).trans k4, (cell_set6 hne1 _ _ _ _ _ _ 5).trans k5⟩))
    (first
      | (go_at_call 207; first
          | (with_reducible refine (neg_any _ p.num _ (H1.out.far HT.out.drew.bel)).mono ?_
             rintro e u1 ⟨v1, rfl, hv1, hb1⟩;have T1 := Lib.hid (HT.out.drew.far hb1);have K1 := Lib.hid T1.out.cells;have V1_1 := Lib.hid hv1;obtain ⟨e1a, e1b, e1c, e1d, e1f, rfl⟩ := iv_form hv1
             obtain ⟨⟨r0, r1, r2, r3, r4, r5⟩, fr⟩ := ResR.cells T1.out.hr)))
  go_wp2
  exact end_rat Tryz.results179 rfl rfl T1.out.hr (by show IV _ _ (-p.num); exact V1_1.out) (by rw [denI_neg]; exact H2.out.far T1.out.bel) T1.out.bel (by omega)
end
end Go.Proofs.YtapdbeaoakcjeaaGreatDoor
namespace Go.Proofs.YtapdbeaoakcjeaaGreatDoor
open Go.RowKit Nmx

theorem denI_int (z : Int) : denI (z : Rat) = 0 := denI_one (Rat.den_intCast z)
section
set_option maxRecDepth 100000
set_option maxHeartbeats 4000000
theorem ratFromInt_any (x : Value) (z : Int) (w : World) (hx : IV w x z) : Calls Tryz.prog 181 #[x] w (GetsQ (z : Rat) w) := by
  obtain ⟨s1, b1, a1, n1, c1, rfl⟩ := iv_form hx;have H1 := Lib.hid hx;have HR := Lib.hid (new_second w (.cells #[.int .i64 s1, .bool b1, .slice a1 n1 c1] 155) (.cells #[.int .i64 0, .bool false, .slice none 0 0, .int .i64 0, .bool false, .slice none 0 0] 157));have HB := Lib.hid (below2 w (.cells #[.int .i64 s1, .bool b1, .slice a1 n1 c1] 155) (.cells #[.int .i64 0, .bool false, .slice none 0 0, .int .i64 0, .bool false, .slice none 0 0] 157));have H2 := Lib.hid (H1.out.far HB.out);clear hx
  go_enter Tryz.func181, Tryz.ntmps181
  go_upto_region 1 with fail
  have HC := Lib.hid ((Below.heap_alloc _ _ _ (by simp)).trans (heap_alloc_new w (.cells #[.int .i64 s1, .bool b1, .slice a1 n1 c1] 155)) : ((w.alloc (.cells #[.int .i64 s1, .bool b1, .slice a1 n1 c1] 155)).alloc (.cells #[.int .i64 0, .bool false, .slice none 0 0, .int .i64 0, .bool false, .slice none 0 0] 157)).heap[w.heap.size]? = some (.cells #[.int .i64 s1, .bool b1, .slice a1 n1 c1] 155 (0, 0)));generalize (w.alloc (.cells #[.int .i64 s1, .bool b1, .slice a1 n1 c1] 155)).alloc (.cells #[.int .i64 0, .bool false, .slice none 0 0, .int .i64 0, .bool false, .slice none 0 0] 157) = w1 at *;obtain ⟨k0, k1, k2, -, -, -⟩ := Cells.of HC.out;obtain ⟨⟨r0, r1, r2, r3, r4, r5⟩, fr⟩ := ResR.cells HR.out
  go_wp2
  exact end_rat Tryz.results181 rfl rfl HR.out (by rw [Rat.num_intCast]; exact H2.out) (by rw [denI_int]; exact zeroIV _) HB.out (by omega)
end
end Go.Proofs.YtapdbeaoakcjeaaGreatDoor

/- Rat.IsInt, Num, Den, Sign of package exact; IsInt, Sign, Valid of package number. -/
import Derived.Test.YteoklapcifonaaaGreatDoorNNI
import Derived.Lib.SmallJoins
import Derived.StillTailTactics
import Derived.Lib.AppendIntMem
open Go.Lib (hid)
namespace Go.Proofs.YteoklapcifonaaaGreatDoor
open Go.RowKit Nmx
theorem denI_zero (q : Rat) : decide (denI q = 0) = decide (q.den = 1) := by
 have := q.den_nz;unfold denI
 by_cases h : q.den = 1
 · rw [if_pos h]; simp [h]
 · rw [if_neg h]; simp [h]; exact this
theorem aR {w : World} {v : Value} {q : Rat} (h : RV w v q) : ∃ s1 b1 a1 n1 c1 s2 b2 a2 n2 c2, v = .agg #[.int .i64 s1, .bool b1, .slice a1 n1 c1, .int .i64 s2, .bool b2, .slice a2 n2 c2] ∧ IV w (.agg #[.int .i64 s1, .bool b1, .slice a1 n1 c1]) q.num ∧ IV w (.agg #[.int .i64 s2, .bool b2, .slice a2 n2 c2]) (denI q) := h
section
set_option maxRecDepth 100000
set_option maxHeartbeats 4000000
theorem bG (v : Value) (q : Rat) (w : World) (h : RV w v q) : Calls Tryz.prog 64 #[v] w fun e w' => e = .returned (.bool (decide (q.den = 1))) ∧ Below w.heap.size w w' := by
 obtain ⟨s1, b1, a1, n1, c1, s2, b2, a2, n2, c2, rfl, h1, h2⟩ := aR h;have hz := fun o => isZero_any _ _ _ (h2.alloc_of o)
 rw [denI_zero] at hz;clear h h1 h2
 go_enter Tryz.func64, Tryz.ntmps64
 go_wp2_with fail
 refine (hz _).mono ?_;rintro e w1 ⟨rfl, hb1⟩
 go_wp2
 go_ret
 exact ⟨rfl, ((Below.refl _ _).alloc (Nat.le_refl _) _).trans (hb1.mono (by simp))⟩
theorem ratSign_any (v : Value) (q : Rat) (w : World) (h : RV w v q) : Calls Tryz.prog 123 #[v] w fun e w' => e = .returned (.int .i64 (bc q.num)) ∧ Below w.heap.size w w' := by
 obtain ⟨s1, b1, a1, n1, c1, s2, b2, a2, n2, c2, rfl, h1, h2⟩ := aR h;have hz := fun o => sign_any _ _ _ (h1.alloc_of o)
 clear h h1 h2
 go_enter Tryz.func123, Tryz.ntmps123
 go_wp2_with fail
 refine (hz _).mono ?_;rintro e w1 ⟨rfl, hb1⟩
 go_wp2
 go_ret
 exact ⟨rfl, ((Below.refl _ _).alloc (Nat.le_refl _) _).trans (hb1.mono (by simp))⟩
theorem ratNum_any (v : Value) (q : Rat) (w : World) (h : RV w v q) : Calls Tryz.prog 118 #[v] w (aY q.num w) := by
 obtain ⟨s1, b1, a1, n1, c1, s2, b2, a2, n2, c2, rfl, h1, h2⟩ := aR h;have H1 := hid h1;clear h h1 h2
 go_enter Tryz.func118, Tryz.ntmps118
 go_wp2
 have hbl := below2 w (.cells #[.int .i64 s1, .bool b1, .slice a1 n1 c1, .int .i64 s2, .bool b2, .slice a2 n2 c2] 85) (.cells #[.int .i64 s1, .bool b1, .slice a1 n1 c1] 83);exact bodyPost_ret (v := .agg #[.int .i64 s1, .bool b1, .slice a1 n1 c1]) (by simp [results, Tryz.results118, go_sem]) rfl ⟨_, rfl, H1.out.far hbl, hbl⟩
/-- whatever Gcd is asked at the text's two integers, it does what it should -/
def GcdAt (l : List UInt8) : Prop := ∀ n d, aE (upto l) = some n → aE (aI l) = some d → 1 < d → GcdOk n d
/-- what the library's and the project's variables hold, as far as texts want it -/
structure Env (w : World) : Prop where
 big : 0 < w.heap.size
 len : ∃ m : Int, w.cell? ⟨0, 0, none⟩ = some (.int .i64 m)
 tab : Lib.TabIs Tryz.prog w "internal/strconv.uint64pow10" .u64 Lib.pow10Tab
theorem Env.far {w w1 : World} (h : Env w) (hb : Below w.heap.size w w1) : Env w1 :=
 ⟨Nat.lt_of_lt_of_le h.big hb.size, let ⟨m, hm⟩ := h.len; ⟨m, (hb.cell (p := ⟨0, 0, none⟩) h.big).trans hm⟩, Go.Joins.tab_stays (g := 1) (by kernel_rfl) h.tab hb (Nat.le_refl _)⟩
theorem parse_env (s : ByteArray) (w : World) (hs : s.size ≤ 1000000) (h : Env w) (hg : GcdAt s.data.toList) : Calls Tryz.prog 63 #[.string s] w (bD s.data.toList w) := by
 obtain ⟨m, hm⟩ := h.len;exact parse_any m s w hs h.big hm hg
theorem numIsInt_any (s : ByteArray) (w : World) (hs : s.size ≤ 1000000) (h : Env w) (hg : GcdAt s.data.toList) : Calls Tryz.prog 25 #[.string s] w fun e w' => e = .returned (.bool (match ap s.data.toList with | some q => decide (q.den = 1) | none => false)) ∧ Below w.heap.size w w' := by
 have hp := parse_env s w hs h hg;cases hq : ap s.data.toList with
 | none =>
   unfold bD at hp;rw [hq] at hp;clear hq
   go_enter Tryz.func25, Tryz.ntmps25
   go_wp2_with fail
   refine hp.mono ?_;rintro e w1 ⟨v, rfl, hv, hb1⟩;obtain ⟨s1, b1, a1, n1, c1, s2, b2, a2, n2, c2, rfl, h1, h2⟩ := aR hv;have HB := hid hb1;clear hv h1 h2 hp hb1
   go_wp2_with fail
   go_ret
   exact ⟨rfl, HB.out.alloc HB.out.size _⟩
 | some q =>
   unfold bD at hp;rw [hq] at hp;clear hq
   go_enter Tryz.func25, Tryz.ntmps25
   go_wp2_with fail
   refine hp.mono ?_;rintro e w1 ⟨v, rfl, hv, hb1⟩;have hi := fun o => bG v q (w1.alloc o) (hv.far ((Below.refl _ _).alloc (Nat.le_refl _) _))
   obtain ⟨s1, b1, a1, n1, c1, s2, b2, a2, n2, c2, rfl, h1, h2⟩ := aR hv;have HB := hid hb1;clear hv h1 h2 hp hb1
   go_wp2_with fail
   refine (hi _).mono ?_;rintro e w2 ⟨rfl, hb2⟩;have HB2 := hid ((HB.out.alloc HB.out.size _).trans (hb2.mono (by have := HB.out.size; simp; omega)));clear hb2 hi
   go_wp2_with fail
   go_ret
   exact ⟨rfl, HB2.out⟩
theorem numSign_any (s : ByteArray) (w : World) (hs : s.size ≤ 1000000) (h : Env w) (hg : GcdAt s.data.toList) : Calls Tryz.prog 74 #[.string s] w fun e w' => e = .returned (.int .i64 (bc ((ap s.data.toList).getD 0).num)) ∧ Below w.heap.size w w' := by
 have hp := parse_env s w hs h hg;unfold bD at hp;generalize ap s.data.toList = oq at *
 go_enter Tryz.func74, Tryz.ntmps74
 go_wp2_with fail
 refine hp.mono ?_;rintro e w1 ⟨v, rfl, hv, hb1⟩;have hi := fun o => ratSign_any v _ (w1.alloc o) (hv.far ((Below.refl _ _).alloc (Nat.le_refl _) _))
 obtain ⟨s1, b1, a1, n1, c1, s2, b2, a2, n2, c2, rfl, h1, h2⟩ := aR hv;have HB := hid hb1;clear hv h1 h2 hp hb1
 go_wp2_with fail
 refine (hi _).mono ?_;rintro e w2 ⟨rfl, hb2⟩;have HB2 := hid ((HB.out.alloc HB.out.size _).trans (hb2.mono (by have := HB.out.size; simp; omega)));clear hb2 hi
 go_wp2_with fail
 go_ret
 exact ⟨rfl, HB2.out⟩
end
end Go.Proofs.YteoklapcifonaaaGreatDoor
namespace Go.Proofs.YteoklapcifonaaaGreatDoor
open Go.RowKit Nmx
theorem ak {w : World} {R g : Nat} (h : g ≠ R) (x0 x1 x2 x3 x4 x5 : Value) (i : Nat) : ((((((w.setCell ⟨R, 0, none⟩ x0).setCell ⟨R, 1, none⟩ x1).setCell ⟨R, 2, none⟩ x2).setCell ⟨R, 3, none⟩ x3).setCell ⟨R, 4, none⟩ x4).setCell ⟨R, 5, none⟩ x5).cell? ⟨g, i, none⟩ = w.cell? ⟨g, i, none⟩ := by
 apply World.cell?_of_block;exact set6_other h x0 x1 x2 x3 x4 x5
def Dozen (w : World) (g h : Nat) (x0 x1 x2 x3 x4 x5 y0 y1 y2 y3 y4 y5 : Value) : Prop :=
 w.cell? ⟨g, 0, none⟩ = some x0 ∧ w.cell? ⟨g, 1, none⟩ = some x1 ∧ w.cell? ⟨g, 2, none⟩ = some x2 ∧ w.cell? ⟨g, 3, none⟩ = some x3 ∧ w.cell? ⟨g, 4, none⟩ = some x4 ∧ w.cell? ⟨g, 5, none⟩ = some x5 ∧ w.cell? ⟨h, 0, none⟩ = some y0 ∧ w.cell? ⟨h, 1, none⟩ = some y1 ∧ w.cell? ⟨h, 2, none⟩ = some y2 ∧ w.cell? ⟨h, 3, none⟩ = some y3 ∧ w.cell? ⟨h, 4, none⟩ = some y4 ∧ w.cell? ⟨h, 5, none⟩ = some y5
theorem Dozen.of {w : World} {g h : Nat} {x0 x1 x2 x3 x4 x5 y0 y1 y2 y3 y4 y5 : Value} {t t' : TypeId} (h1 : w.heap[g]? = some (.cells #[x0, x1, x2, x3, x4, x5] t (0, 0))) (h2 : w.heap[h]? = some (.cells #[y0, y1, y2, y3, y4, y5] t' (0, 0))) : Dozen w g h x0 x1 x2 x3 x4 x5 y0 y1 y2 y3 y4 y5 :=
 ⟨aa h1 0, aa h1 1, aa h1 2, aa h1 3, aa h1 4, aa h1 5, aa h2 0, aa h2 1, aa h2 2, aa h2 3, aa h2 4, aa h2 5⟩
theorem Dozen.set {w : World} {g h R : Nat} {x0 x1 x2 x3 x4 x5 y0 y1 y2 y3 y4 y5 : Value} (k : Dozen w g h x0 x1 x2 x3 x4 x5 y0 y1 y2 y3 y4 y5) (hg : g ≠ R) (hh : h ≠ R) (z0 z1 z2 z3 z4 z5 : Value) :
    Dozen ((((((w.setCell ⟨R, 0, none⟩ z0).setCell ⟨R, 1, none⟩ z1).setCell ⟨R, 2, none⟩ z2).setCell ⟨R, 3, none⟩ z3).setCell ⟨R, 4, none⟩ z4).setCell ⟨R, 5, none⟩ z5) g h x0 x1 x2 x3 x4 x5 y0 y1 y2 y3 y4 y5 := by
 obtain ⟨k0, k1, k2, k3, k4, k5, l0, l1, l2, l3, l4, l5⟩ := k
 exact ⟨(ak hg _ _ _ _ _ _ 0).trans k0, (ak hg _ _ _ _ _ _ 1).trans k1, (ak hg _ _ _ _ _ _ 2).trans k2, (ak hg _ _ _ _ _ _ 3).trans k3, (ak hg _ _ _ _ _ _ 4).trans k4, (ak hg _ _ _ _ _ _ 5).trans k5,
  (ak hh _ _ _ _ _ _ 0).trans l0, (ak hh _ _ _ _ _ _ 1).trans l1, (ak hh _ _ _ _ _ _ 2).trans l2, (ak hh _ _ _ _ _ _ 3).trans l3, (ak hh _ _ _ _ _ _ 4).trans l4, (ak hh _ _ _ _ _ _ 5).trans l5⟩
theorem RV.heap_same {w w' : World} {v : Value} {q : Rat} (h : RV w v q) {R : Nat} {cs : Array Value} {t : TypeId} {fr : Nat × Nat} (hR : w.heap[R]? = some (.cells cs t fr)) (ht : t ≠ 145) (ho : ∀ k, k ≠ R → w'.heap[k]? = w.heap[k]?) : RV w' v q :=
 let ⟨s1, b1, a1, n1, c1, s2, b2, a2, n2, c2, e, h1, h2⟩ := h
 ⟨s1, b1, a1, n1, c1, s2, b2, a2, n2, c2, e, h1.heap_same hR ht ho, h2.heap_same hR ht ho⟩
end Go.Proofs.YteoklapcifonaaaGreatDoor
namespace Go.Proofs.YteoklapcifonaaaGreatDoor
open Go.RowKit Nmx
end Go.Proofs.YteoklapcifonaaaGreatDoor
namespace Go.Proofs.YteoklapcifonaaaGreatDoor
open Go.RowKit Nmx
section
set_option maxRecDepth 100000
set_option maxHeartbeats 4000000
theorem intString_small (z : Int) (w : World) (h : Env w) (hz : Small z) : Calls Tryz.prog 122 #[bT z] w fun e w' => e = .returned (.string ⟨(bh z).toArray⟩) ∧ Below w.heap.size w w' := by
 have kq0 := mag_eql0;have hbl : ∀ o : Obj, Below w.heap.size w (w.alloc o) := fun o => (Below.refl _ _).alloc (Nat.le_refl _) _
 have hf := fun o => Tryz.strconv_FormatInt_10 z (by have := hz.1; omega) (by have := hz.2; omega) (w.alloc o) (h.far (hbl o)).tab
 rw [itoa_eq] at hf;unfold bT;clear h hz
 go_enter Tryz.func122, Tryz.ntmps122
 go_wp2_with fail
 refine (hf _).mono ?_;rintro e w1 ⟨rfl, k, os, hw⟩;have HB : Hid (Below w.heap.size (w.alloc (.cells #[.int .i64 z, .bool false, .slice none 0 0] 83)) w1) := hid (by rw [hw]; exact Lib.below_grow w.heap.size _ (by simp) k os);clear hw
 go_wp2
 go_ret
 exact ⟨rfl, (hbl _).trans HB.out⟩
end
end Go.Proofs.YteoklapcifonaaaGreatDoor
namespace Go.Proofs.YteoklapcifonaaaGreatDoor
open Go.RowKit Nmx
theorem den_get (q : Rat) : (if q.den = 1 then (1 : Int) else denI q) = q.den := by
 unfold denI
 by_cases h : q.den = 1
 · rw [if_pos h, h]; rfl
 · rw [if_neg h, if_neg h]
section
set_option maxRecDepth 100000
set_option maxHeartbeats 4000000
theorem ratDen_any (v : Value) (q : Rat) (w : World) (h : RV w v q) : Calls Tryz.prog 110 #[v] w (aY q.den w) := by
 obtain ⟨s1, b1, a1, n1, c1, s2, b2, a2, n2, c2, rfl, h1, h2⟩ := aR h;have HB0 := hid (below2 w (.cells #[.int .i64 s1, .bool b1, .slice a1 n1 c1, .int .i64 s2, .bool b2, .slice a2 n2 c2] 85) (.cells #[.int .i64 0, .bool false, .slice none 0 0] 83));have hz := isZero_any _ _ _ (h2.far HB0.out);rw [denI_zero] at hz;have H2 := hid h2;have HG := hid (den_get q);clear h h1 h2
 go_enter Tryz.func110, Tryz.ntmps110
 go_wp2_with fail
 refine hz.mono ?_;rintro e w1 ⟨rfl, hb1⟩;have HR1 := hid ((hb1.block w.heap.size (by simp; omega)).trans ((Below.heap_alloc _ _ _ (by simp)).trans (heap_alloc_new w _)));have HR2 := hid ((hb1.block (w.heap.size + 1) (by simp)).trans (bC w _ _));have HB1 := hid (HB0.out.trans (hb1.mono (by simp; omega)));clear hb1 hz HB0
 by_cases hd : q.den = 1
 · have hdb : decide (q.den = 1) = true := by simpa using hd
   have hf := fromInt64_any 1 w1 (by omega) (by omega);have HE : Hid ((q.den : Int) = 1) := hid (by rw [hd]; rfl);clear hd HG
   go_wp2_with fail
   refine hf.mono ?_;rintro e w2 ⟨v2, rfl, hv2, hb2⟩;have HV2 := hid hv2;obtain ⟨s3, b3, a3, n3, c3, rfl⟩ := ae hv2;have HS2 := hid ((hb2.block _ (ab HR2.out)).trans HR2.out);have HB2 := hid (HB1.out.trans (hb2.mono HB1.out.size));obtain ⟨r0, r1, r2, r3, r4, r5⟩ := Res.cells HS2.out;clear hv2 hb2 hf
   go_wp2
   rw [HE.out];exact end_int Tryz.results110 rfl rfl HS2.out HV2.out HB2.out (by omega)
 · have hdb : decide (q.den = 1) = false := by simpa using hd
   have HE : Hid ((q.den : Int) = denI q) := hid (by rw [← HG.out, if_neg hd]);obtain ⟨y0, y1, y2, y3, y4, y5, -⟩ := Dozen.of HR1.out HR1.out;obtain ⟨r0, r1, r2, r3, r4, r5⟩ := Res.cells HR2.out;clear hd HG
   go_wp2
   rw [HE.out];exact end_int Tryz.results110 rfl rfl HR2.out (H2.out.far HB1.out) HB1.out (by omega)
end
end Go.Proofs.YteoklapcifonaaaGreatDoor
namespace Go.Proofs.YteoklapcifonaaaGreatDoor
open Go.RowKit Nmx
def StrAt (z : Int) : Prop := ∀ (v : Value) (w : World), Env w → IV w v z → Calls Tryz.prog 122 #[v] w fun e w' => e = .returned (.string ⟨(bh z).toArray⟩) ∧ Below w.heap.size w w'
theorem textQ_den1 {q : Rat} (h : q.den = 1) : aK q = bh q.num := by unfold aK; rw [if_pos h, List.append_nil]
theorem textQ_den {q : Rat} (h : q.den ≠ 1) : aK q = bh q.num ++ 47 :: bh q.den := by
 unfold aK;rw [if_neg h, decI_nat]
theorem keep6 {a b : World} {g : Nat} {x0 x1 x2 x3 x4 x5 : Value} (hb : Below a.heap.size a b) (hg : g < a.heap.size)
    (h : a.cell? ⟨g, 0, none⟩ = some x0 ∧ a.cell? ⟨g, 1, none⟩ = some x1 ∧ a.cell? ⟨g, 2, none⟩ = some x2 ∧ a.cell? ⟨g, 3, none⟩ = some x3 ∧ a.cell? ⟨g, 4, none⟩ = some x4 ∧ a.cell? ⟨g, 5, none⟩ = some x5) :
    b.cell? ⟨g, 0, none⟩ = some x0 ∧ b.cell? ⟨g, 1, none⟩ = some x1 ∧ b.cell? ⟨g, 2, none⟩ = some x2 ∧ b.cell? ⟨g, 3, none⟩ = some x3 ∧ b.cell? ⟨g, 4, none⟩ = some x4 ∧ b.cell? ⟨g, 5, none⟩ = some x5 := by
 obtain ⟨k0, k1, k2, k3, k4, k5⟩ := h;have e := hb.block g hg;refine ⟨?_, ?_, ?_, ?_, ?_, ?_⟩ <;> simp only [World.cell?, e] at * <;> assumption
section
set_option maxRecDepth 100000
set_option maxHeartbeats 4000000
theorem ratString_int (v : Value) (q : Rat) (w : World) (h : RV w v q) (hE : Env w) (hn : StrAt q.num) (hd : q.den = 1) : Calls Tryz.prog 94 #[v] w fun e w' => e = .returned (.string ⟨(aK q).toArray⟩) ∧ Below w.heap.size w w' := by
 obtain ⟨s1, b1, a1, n1, c1, s2, b2, a2, n2, c2, rfl, h1, h2⟩ := aR h;have hi := fun o => bG (.agg #[.int .i64 s1, .bool b1, .slice a1 n1 c1, .int .i64 s2, .bool b2, .slice a2 n2 c2]) q (w.alloc o) (h.far ((Below.refl _ _).alloc (Nat.le_refl _) o))
 have HB0 := hid ((Below.refl w.heap.size w).alloc (Nat.le_refl _) (.cells #[.int .i64 s1, .bool b1, .slice a1 n1 c1, .int .i64 s2, .bool b2, .slice a2 n2 c2] 85));have H1 := hid h1;have H2 := hid h2;have HE := hid hE;have HN := hid hn;clear h hE hn h1 h2
 go_enter Tryz.func94, Tryz.ntmps94
 go_wp2_with fail
 refine (hi _).mono ?_;rintro e w1 ⟨rfl, hb1⟩;have HR1 := hid ((hb1.block w.heap.size (by simp)).trans (heap_alloc_new w (.cells #[.int .i64 s1, .bool b1, .slice a1 n1 c1, .int .i64 s2, .bool b2, .slice a2 n2 c2] 85)));have HB1 := hid (HB0.out.trans (hb1.mono (by simp)));obtain ⟨y0, y1, y2, y3, y4, y5, -⟩ := Dozen.of HR1.out HR1.out;clear hb1 hi HB0;have hdb : decide (q.den = 1) = true := by simpa using hd
 have HT := hid (textQ_den1 hd);clear hd H2;have hs := HN.out (.agg #[.int .i64 s1, .bool b1, .slice a1 n1 c1]) w1 (HE.out.far HB1.out) (H1.out.far HB1.out)
 go_wp2_with fail
 refine hs.mono ?_;rintro e w2 ⟨rfl, hb2⟩;have HB2 := hid (HB1.out.trans (hb2.mono HB1.out.size));clear hb2 hs
 go_wp2
 go_ret
 exact ⟨by rw [HT.out]; rfl, HB2.out⟩
end
end Go.Proofs.YteoklapcifonaaaGreatDoor

/- Parse of package exact at texts with a slash. -/
import Derived.Test.YthefknoicelhaaaGreatDoorFNH
namespace Go.Proofs.YthefknoicelhaaaGreatDoor
open Go.RowKit Nmx

/-- Gcd does what it should at these two integers -/
def GcdOk (n d : Int) : Prop := ∀ (x y : Value) (W : World), IV W x n → IV W y d → Calls Tryz.prog 137 #[x, y] W (GetsI (Int.gcd n d) W)
/-- where Parse stands behind both integers -/
structure PF (w wx : World) (N D : Nat) (s1 : Int) (b1 : Bool) (a1 : Option Addr) (n1 c1 : Nat) (s2 : Int) (b2 : Bool) (a2 : Option Addr) (n2 c2 : Nat) (n d : Int) : Prop where
  hr : wx.heap[w.heap.size]? = some (.cells #[.int .i64 0, .bool false, .slice none 0 0, .int .i64 0, .bool false, .slice none 0 0] 149 (0, 0))
  hn : wx.heap[N]? = some (.cells #[.int .i64 s1, .bool b1, .slice a1 n1 c1] 147 (0, 0))
  hd : wx.heap[D]? = some (.cells #[.int .i64 s2, .bool b2, .slice a2 n2 c2] 147 (0, 0))
  vn : IV wx (.agg #[.int .i64 s1, .bool b1, .slice a1 n1 c1]) n
  vd : IV wx (.agg #[.int .i64 s2, .bool b2, .slice a2 n2 c2]) d
  bel : Below w.heap.size w wx
section
variable {w wx w1 : World} {N D : Nat} {s1 : Int} {b1 : Bool} {a1 : Option Addr} {n1 c1 : Nat} {s2 : Int} {b2 : Bool} {a2 : Option Addr} {n2 c2 : Nat} {n d : Int}
theorem PF.far (h : PF w wx N D s1 b1 a1 n1 c1 s2 b2 a2 n2 c2 n d) (hb : Below wx.heap.size wx w1) : PF w w1 N D s1 b1 a1 n1 c1 s2 b2 a2 n2 c2 n d :=
  ⟨(hb.block _ (lt_of_heap h.hr)).trans h.hr, (hb.block _ (lt_of_heap h.hn)).trans h.hn, (hb.block _ (lt_of_heap h.hd)).trans h.hd, h.vn.far hb, h.vd.far hb, h.bel.trans (hb.mono h.bel.size)⟩
theorem PF.cells (h : PF w wx N D s1 b1 a1 n1 c1 s2 b2 a2 n2 c2 n d) : (wx.cell? ⟨N, 0, none⟩ = some (.int .i64 s1) ∧ wx.cell? ⟨N, 1, none⟩ = some (.bool b1) ∧ wx.cell? ⟨N, 2, none⟩ = some (.slice a1 n1 c1)) ∧ (wx.cell? ⟨D, 0, none⟩ = some (.int .i64 s2) ∧ wx.cell? ⟨D, 1, none⟩ = some (.bool b2) ∧ wx.cell? ⟨D, 2, none⟩ = some (.slice a2 n2 c2)) :=
  ⟨⟨heap_cell h.hn 0, heap_cell h.hn 1, heap_cell h.hn 2⟩, ⟨heap_cell h.hd 0, heap_cell h.hd 1, heap_cell h.hd 2⟩⟩
end
theorem ratF_frac {l : List UInt8} (h : l.contains 47 = true) : (canonF (upto l) = none → ratF l = none) ∧ (canonF (behind l) = none → ratF l = none) ∧ ∀ n d, canonF (upto l) = some n → canonF (behind l) = some d →
    (d ≤ 0 ∨ d = 1 ∨ n = 0 ∨ Int.gcd n d ≠ 1 → ratF l = none) ∧ (1 < d → n ≠ 0 → Int.gcd n d = 1 → ∃ q, ratF l = some q ∧ q.num = n ∧ denI q = d) := by
  unfold ratF
  rw [if_neg (by rw [h]; simp)]
  refine ⟨fun h1 => by rw [h1], fun h1 => by rw [h1]; cases canonF (upto l) <;> rfl, fun n d h1 h2 => ?_⟩
  rw [h1, h2]
  refine ⟨fun h3 => ?_, fun h3 h4 h5 => ?_⟩
  · simp only
    rw [dif_neg]
    rintro ⟨g1, g2, g3⟩
    rcases h3 with h3 | h3 | h3 | h3
    · omega
    · omega
    · exact g2 h3
    · exact h3 g3
  · simp only
    rw [dif_pos ⟨h3, h4, h5⟩]
    refine ⟨_, rfl, rfl, ?_⟩
    unfold denI
    simp only
    rw [if_neg (by omega)]; omega

section
set_option maxRecDepth 100000
set_option maxHeartbeats 40000000
theorem parse_all :
    (∀ (m : Int) (s : ByteArray) (w : World) (_ : s.size ≤ 1000000) (_ : 3 < w.heap.size) (_ : w.cell? ⟨3, 0, none⟩ = some (.int .i64 m)) (_ : s.data.toList.contains 47 = true) (_ : canonF (upto s.data.toList) = none), Calls Tryz.prog 116 #[.string s] w (ParsePost s.data.toList w)) ∧
    (∀ (m : Int) (s : ByteArray) (w : World) (_ : s.size ≤ 1000000) (_ : 3 < w.heap.size) (_ : w.cell? ⟨3, 0, none⟩ = some (.int .i64 m)) (_ : s.data.toList.contains 47 = true) {n : Int} (_ : canonF (upto s.data.toList) = some n) (_ : canonF (behind s.data.toList) = none), Calls Tryz.prog 116 #[.string s] w (ParsePost s.data.toList w)) ∧
    (∀ (m : Int) (s : ByteArray) (w : World) (_ : s.size ≤ 1000000) (_ : 3 < w.heap.size) (_ : w.cell? ⟨3, 0, none⟩ = some (.int .i64 m)) (_ : s.data.toList.contains 47 = true) {n d : Int} (_ : canonF (upto s.data.toList) = some n) (_ : canonF (behind s.data.toList) = some d) (_ : d ≤ 0), Calls Tryz.prog 116 #[.string s] w (ParsePost s.data.toList w)) ∧
    (∀ (m : Int) (s : ByteArray) (w : World) (_ : s.size ≤ 1000000) (_ : 3 < w.heap.size) (_ : w.cell? ⟨3, 0, none⟩ = some (.int .i64 m)) (_ : s.data.toList.contains 47 = true) {n d : Int} (_ : canonF (upto s.data.toList) = some n) (_ : canonF (behind s.data.toList) = some d) (_ : d = 1), Calls Tryz.prog 116 #[.string s] w (ParsePost s.data.toList w)) ∧
    (∀ (m : Int) (s : ByteArray) (w : World) (_ : s.size ≤ 1000000) (_ : 3 < w.heap.size) (_ : w.cell? ⟨3, 0, none⟩ = some (.int .i64 m)) (_ : s.data.toList.contains 47 = true) {n d : Int} (_ : canonF (upto s.data.toList) = some n) (_ : canonF (behind s.data.toList) = some d) (_ : 1 < d) (_ : n = 0), Calls Tryz.prog 116 #[.string s] w (ParsePost s.data.toList w)) ∧
    (∀ (m : Int) (s : ByteArray) (w : World) (_ : s.size ≤ 1000000) (_ : 3 < w.heap.size) (_ : w.cell? ⟨3, 0, none⟩ = some (.int .i64 m)) (_ : s.data.toList.contains 47 = true) {n d : Int} (_ : canonF (upto s.data.toList) = some n) (_ : canonF (behind s.data.toList) = some d) (_ : 1 < d) (_ : n ≠ 0) (_ : Int.gcd n d ≠ 1) (_ : GcdOk n d), Calls Tryz.prog 116 #[.string s] w (ParsePost s.data.toList w)) ∧
    (∀ (m : Int) (s : ByteArray) (w : World) (_ : s.size ≤ 1000000) (_ : 3 < w.heap.size) (_ : w.cell? ⟨3, 0, none⟩ = some (.int .i64 m)) (_ : s.data.toList.contains 47 = true) {n d : Int} (_ : canonF (upto s.data.toList) = some n) (_ : canonF (behind s.data.toList) = some d) (_ : 1 < d) (_ : n ≠ 0) (_ : Int.gcd n d = 1) (_ : GcdOk n d), Calls Tryz.prog 116 #[.string s] w (ParsePost s.data.toList w)) := by
  refine ⟨?g1, ?g2, ?g3, ?g4, ?g5, ?g6, ?g7⟩
  focus
    intro m s w hs h0 hM hc hu1
  rotate_left
  focus
    intro m s w hs h0 hM hc n hu1 ht1
  rotate_left
  focus
    intro m s w hs h0 hM hc n d hu1 ht1 hd
  rotate_left
  focus
    intro m s w hs h0 hM hc n d hu1 ht1 hd
  rotate_left
  focus
    intro m s w hs h0 hM hc n d hu1 ht1 hd hn
  rotate_left
  focus
    intro m s w hs h0 hM hc n d hu1 ht1 hd hn hg hgcd
  rotate_left
  focus
    intro m s w hs h0 hM hc n d hu1 ht1 hd hn hg hgcd
  rotate_left
  all_goals
    have hcut := fun (W : World) (hW : W.cell? ⟨3, 0, none⟩ = some (.int .i64 m)) => Tryz.strings_Cut s ⟨#[47]⟩ m W (by omega) hW
    have hcs : Lib.cut s.data.toList (⟨#[47]⟩ : ByteArray).data.toList = (upto s.data.toList, behind s.data.toList, true) := by
      have := cut_slash s.data.toList
      rw [hc] at this; exact this
    rw [hcs] at hcut
    simp only at hcut
    obtain ⟨u, hu⟩ : ∃ u : ByteArray, (⟨(upto s.data.toList).toArray⟩ : ByteArray) = u := ⟨_, rfl⟩
    obtain ⟨t, ht⟩ : ∃ t : ByteArray, (⟨(behind s.data.toList).toArray⟩ : ByteArray) = t := ⟨_, rfl⟩
    rw [hu, ht] at hcut
    have hul : u.data.toList = upto s.data.toList := by rw [← hu]
    have htl : t.data.toList = behind s.data.toList := by rw [← ht]
    have hback := congrArg List.length (cut_back hc)
    rw [List.length_append, List.length_cons, ← hul, ← htl, size_data, size_data, size_data] at hback
    have hcu := fun W => canonicalInt_any u W (by omega)
  rotate_left
  focus
    have hct := fun W => canonicalInt_any t W (by omega)
  rotate_left
  focus
    have hct := fun W => canonicalInt_any t W (by omega)
  rotate_left
  focus
    have hct := fun W => canonicalInt_any t W (by omega)
  rotate_left
  focus
    have hct := fun W => canonicalInt_any t W (by omega)
  rotate_left
  focus
    have hct := fun W => canonicalInt_any t W (by omega)
  rotate_left
  focus
    have hct := fun W => canonicalInt_any t W (by omega)
  rotate_left
  all_goals
    rw [hul] at hcu
  rotate_left
  focus
    rw [htl] at hct
  rotate_left
  focus
    rw [htl] at hct
  rotate_left
  focus
    rw [htl] at hct
  rotate_left
  focus
    rw [htl] at hct
  rotate_left
  focus
    rw [htl] at hct
  rotate_left
  focus
    rw [htl] at hct
  rotate_left
  all_goals
    have HU := Lib.hid hu1
  focus
    have HZ := Lib.hid ((ratF_frac hc).1 hu1)
    clear hu1
  rotate_left
  focus
    have HT := Lib.hid ht1
    have HZ := Lib.hid ((ratF_frac hc).2.1 ht1)
    clear hu1 ht1
  rotate_left
  focus
    have HT := Lib.hid ht1
    have hsg : sgnI d ≤ 0 := by unfold sgnI; grind
    have HZ := Lib.hid (((ratF_frac hc).2.2 n d hu1 ht1).1 (.inl hd))
    clear hd
    clear hu1 ht1
  rotate_left
  focus
    have HT := Lib.hid ht1
    have hsg : ¬ sgnI d ≤ 0 := by rw [hd]; decide
    have HZ := Lib.hid (((ratF_frac hc).2.2 n d hu1 ht1).1 (.inr (.inl hd)))
    have hd1 : decide (d = 1) = true := decide_eq_true hd
    clear hd
    clear hu1 ht1
  rotate_left
  focus
    have HT := Lib.hid ht1
    have hsg : ¬ sgnI d ≤ 0 := by unfold sgnI; grind
    have HZ := Lib.hid (((ratF_frac hc).2.2 n d hu1 ht1).1 (.inr (.inr (.inl hn))))
    have hd1 : decide (d = 1) = false := decide_eq_false (by omega)
    have hn1 : decide (n = 0) = true := decide_eq_true hn
    clear hd hn
    clear hu1 ht1
  rotate_left
  focus
    have HT := Lib.hid ht1
    have hsg : ¬ sgnI d ≤ 0 := by unfold sgnI; grind
    have HZ := Lib.hid (((ratF_frac hc).2.2 n d hu1 ht1).1 (.inr (.inr (.inr hg))))
    have hd1 : decide (d = 1) = false := decide_eq_false (by omega)
    have hn1 : decide (n = 0) = false := decide_eq_false hn
    have hg1 : decide ((Int.gcd n d : Int) = 1) = false := decide_eq_false (by omega)
    clear hd hn hg
    clear hu1 ht1
  rotate_left
  focus
    have HT := Lib.hid ht1
    have hsg : ¬ sgnI d ≤ 0 := by unfold sgnI; grind
    obtain ⟨q, z1, z2, z3⟩ := ((ratF_frac hc).2.2 n d hu1 ht1).2 hd hn hg
    have HZ := Lib.hid z1
    have HZ2 := Lib.hid z2
    have HZ3 := Lib.hid z3
    have hd1 : decide (d = 1) = false := decide_eq_false (by omega)
    have hn1 : decide (n = 0) = false := decide_eq_false hn
    have hg1 : decide ((Int.gcd n d : Int) = 1) = true := decide_eq_true (by omega)
    clear hd hn hg z1 z2 z3
    clear hu1 ht1
  rotate_left
  all_goals
    have hM1 : (w.alloc (.cells #[.int .i64 0, .bool false, .slice none 0 0, .int .i64 0, .bool false, .slice none 0 0] 149)).cell? ⟨3, 0, none⟩ = some (.int .i64 m) := (World.cell?_alloc_past _ _ _ h0).trans hM
    have HBL : Hid (Below w.heap.size w (w.alloc (.cells #[.int .i64 0, .bool false, .slice none 0 0, .int .i64 0, .bool false, .slice none 0 0] 149))) := Lib.hid ((Below.refl _ _).alloc (Nat.le_refl _) _)
    have HRR : Hid ((w.alloc (.cells #[.int .i64 0, .bool false, .slice none 0 0, .int .i64 0, .bool false, .slice none 0 0] 149)).heap[w.heap.size]? = some (.cells #[.int .i64 0, .bool false, .slice none 0 0, .int .i64 0, .bool false, .slice none 0 0] 149 (0, 0))) := Lib.hid (heap_alloc_new w _)
    clear hcs hM hc hback hul htl hu ht hs
    go_enter Tryz.func116, Tryz.ntmps116
    go_wp2_with fail
    refine (hcut _ hM1).mono ?_
    rintro e w1 ⟨rfl, nq, rfl⟩
    clear hM1 hcut
    go_wp2_with fail
    refine (hcu _).mono ?_
    rintro e w2 ⟨v2, rfl, hv2, hb2⟩
    have HV2 := Lib.hid hv2
    obtain ⟨s1, b1, a1, n1, c1, rfl⟩ := iv_form hv2
    have HB2 := Lib.hid ((below_drewN HBL.out nq).trans (hb2.mono (by simp)))
    have HR2 := Lib.hid ((hb2.block w.heap.size (by simp)).trans HRR.out)
    clear hb2 hv2 hcu
    have hlt := lt_of_heap HR2.out
    rw [HU.out] at HV2
    simp only [HU.out]
  focus
    obtain ⟨⟨r0, r1, r2, r3, r4, r5⟩, fr⟩ := ResR.cells HR2.out
  rotate_left
  focus
    have HR3 := Lib.hid ((Below.heap_alloc w2 (.cells #[.int .i64 s1, .bool b1, .slice a1 n1 c1] 147) _ hlt).trans HR2.out)
    have HN3 := Lib.hid (heap_alloc_new w2 (.cells #[.int .i64 s1, .bool b1, .slice a1 n1 c1] 147))
    have HV3 := Lib.hid (HV2.out.alloc_of (.cells #[.int .i64 s1, .bool b1, .slice a1 n1 c1] 147))
    have HB3 := Lib.hid (HB2.out.alloc HB2.out.size (.cells #[.int .i64 s1, .bool b1, .slice a1 n1 c1] 147))
  rotate_left
  focus
    have HR3 := Lib.hid ((Below.heap_alloc w2 (.cells #[.int .i64 s1, .bool b1, .slice a1 n1 c1] 147) _ hlt).trans HR2.out)
    have HN3 := Lib.hid (heap_alloc_new w2 (.cells #[.int .i64 s1, .bool b1, .slice a1 n1 c1] 147))
    have HV3 := Lib.hid (HV2.out.alloc_of (.cells #[.int .i64 s1, .bool b1, .slice a1 n1 c1] 147))
    have HB3 := Lib.hid (HB2.out.alloc HB2.out.size (.cells #[.int .i64 s1, .bool b1, .slice a1 n1 c1] 147))
  rotate_left
  focus
    have HR3 := Lib.hid ((Below.heap_alloc w2 (.cells #[.int .i64 s1, .bool b1, .slice a1 n1 c1] 147) _ hlt).trans HR2.out)
    have HN3 := Lib.hid (heap_alloc_new w2 (.cells #[.int .i64 s1, .bool b1, .slice a1 n1 c1] 147))
    have HV3 := Lib.hid (HV2.out.alloc_of (.cells #[.int .i64 s1, .bool b1, .slice a1 n1 c1] 147))
    have HB3 := Lib.hid (HB2.out.alloc HB2.out.size (.cells #[.int .i64 s1, .bool b1, .slice a1 n1 c1] 147))
  rotate_left
  focus
    have HR3 := Lib.hid ((Below.heap_alloc w2 (.cells #[.int .i64 s1, .bool b1, .slice a1 n1 c1] 147) _ hlt).trans HR2.out)
    have HN3 := Lib.hid (heap_alloc_new w2 (.cells #[.int .i64 s1, .bool b1, .slice a1 n1 c1] 147))
    have HV3 := Lib.hid (HV2.out.alloc_of (.cells #[.int .i64 s1, .bool b1, .slice a1 n1 c1] 147))
    have HB3 := Lib.hid (HB2.out.alloc HB2.out.size (.cells #[.int .i64 s1, .bool b1, .slice a1 n1 c1] 147))
  rotate_left
  focus
    have HR3 := Lib.hid ((Below.heap_alloc w2 (.cells #[.int .i64 s1, .bool b1, .slice a1 n1 c1] 147) _ hlt).trans HR2.out)
    have HN3 := Lib.hid (heap_alloc_new w2 (.cells #[.int .i64 s1, .bool b1, .slice a1 n1 c1] 147))
    have HV3 := Lib.hid (HV2.out.alloc_of (.cells #[.int .i64 s1, .bool b1, .slice a1 n1 c1] 147))
    have HB3 := Lib.hid (HB2.out.alloc HB2.out.size (.cells #[.int .i64 s1, .bool b1, .slice a1 n1 c1] 147))
  rotate_left
  focus
    have HR3 := Lib.hid ((Below.heap_alloc w2 (.cells #[.int .i64 s1, .bool b1, .slice a1 n1 c1] 147) _ hlt).trans HR2.out)
    have HN3 := Lib.hid (heap_alloc_new w2 (.cells #[.int .i64 s1, .bool b1, .slice a1 n1 c1] 147))
    have HV3 := Lib.hid (HV2.out.alloc_of (.cells #[.int .i64 s1, .bool b1, .slice a1 n1 c1] 147))
    have HB3 := Lib.hid (HB2.out.alloc HB2.out.size (.cells #[.int .i64 s1, .bool b1, .slice a1 n1 c1] 147))
  rotate_left
  all_goals
    go_wp2_with fail
  · exact end_rbA Tryz.results116 rfl rfl rfl HR2.out HV2.out (zeroIV _) HB2.out (Nat.le_refl _) (fun w3 v h1 h2 => ⟨v, by rw [HZ.out]; rfl, by rw [HZ.out]; exact h1, h2⟩)
  · refine (hct _).mono ?_
    rintro e w4 ⟨v4, rfl, hv4, hb4⟩
    have HV4 := Lib.hid hv4
    obtain ⟨s2, b2, a2, n2, c2, rfl⟩ := iv_form hv4
    have HR4 := Lib.hid ((hb4.block _ (lt_of_heap HR3.out)).trans HR3.out)
    have HN4 := Lib.hid ((hb4.block _ (lt_of_heap HN3.out)).trans HN3.out)
    have HV34 := Lib.hid (HV3.out.far hb4)
    have HB4 := Lib.hid (HB3.out.trans (hb4.mono HB3.out.size))
    clear hb4 hv4 hct
    rw [HT.out] at HV4
    simp only [HT.out]
    have HPF : Hid (PF w (w4.alloc (.cells #[.int .i64 s2, .bool b2, .slice a2 n2 c2] 147)) w2.heap.size w4.heap.size s1 b1 a1 n1 c1 s2 b2 a2 n2 c2 ((some n).getD 0) ((none : Option Int).getD 0)) := Lib.hid ⟨(Below.heap_alloc w4 _ _ (lt_of_heap HR4.out)).trans HR4.out, (Below.heap_alloc w4 _ _ (lt_of_heap HN4.out)).trans HN4.out, heap_alloc_new w4 _, HV34.out.alloc_of _, HV4.out.alloc_of _, HB4.out.alloc HB4.out.size _⟩
    clear HR3 HN3 HV3 HB3 HV34 HV2 HB2 HR2
    have hlt4 := lt_of_heap HR4.out
    obtain ⟨⟨r0, r1, r2, r3, r4, r5⟩, fr⟩ := ResR.cells HR4.out
    go_wp2_with fail
    exact end_rbA (q := 0) Tryz.results116 rfl rfl rfl HR4.out (zeroIV _) (zeroIV _) HB4.out (Nat.le_refl _) (fun w3 v h1 h2 => ⟨v, by rw [HZ.out]; rfl, by rw [HZ.out]; exact h1, h2⟩)
  · refine (hct _).mono ?_
    rintro e w4 ⟨v4, rfl, hv4, hb4⟩
    have HV4 := Lib.hid hv4
    obtain ⟨s2, b2, a2, n2, c2, rfl⟩ := iv_form hv4
    have HR4 := Lib.hid ((hb4.block _ (lt_of_heap HR3.out)).trans HR3.out)
    have HN4 := Lib.hid ((hb4.block _ (lt_of_heap HN3.out)).trans HN3.out)
    have HV34 := Lib.hid (HV3.out.far hb4)
    have HB4 := Lib.hid (HB3.out.trans (hb4.mono HB3.out.size))
    clear hb4 hv4 hct
    rw [HT.out] at HV4
    simp only [HT.out]
    have HPF : Hid (PF w (w4.alloc (.cells #[.int .i64 s2, .bool b2, .slice a2 n2 c2] 147)) w2.heap.size w4.heap.size s1 b1 a1 n1 c1 s2 b2 a2 n2 c2 ((some n).getD 0) ((some d).getD 0)) := Lib.hid ⟨(Below.heap_alloc w4 _ _ (lt_of_heap HR4.out)).trans HR4.out, (Below.heap_alloc w4 _ _ (lt_of_heap HN4.out)).trans HN4.out, heap_alloc_new w4 _, HV34.out.alloc_of _, HV4.out.alloc_of _, HB4.out.alloc HB4.out.size _⟩
    clear HR3 HN3 HV3 HB3 HV34 HV2 HB2 HR2
    go_wp2_with fail
    refine (sign_any _ _ _ HPF.out.vd).mono ?_
    rintro e w5 ⟨rfl, hb5⟩
    have HP5 := Lib.hid (HPF.out.far hb5)
    clear hb5
    obtain ⟨⟨x0, x1, x2⟩, ⟨y0, y1, y2⟩⟩ := HP5.out.cells
    clear HR4 HN4 HB4 HV4 HPF
    obtain ⟨⟨r0, r1, r2, r3, r4, r5⟩, fr⟩ := ResR.cells HP5.out.hr
    go_wp2_with fail
    exact end_rb (q := 0) Tryz.results116 rfl rfl rfl HP5.out.hr (zeroIV _) (zeroIV _) HP5.out.bel (Nat.le_refl _) (fun w3 v h1 h2 => ⟨v, by rw [HZ.out]; rfl, by rw [HZ.out]; exact h1, h2⟩)
  · refine (hct _).mono ?_
    rintro e w4 ⟨v4, rfl, hv4, hb4⟩
    have HV4 := Lib.hid hv4
    obtain ⟨s2, b2, a2, n2, c2, rfl⟩ := iv_form hv4
    have HR4 := Lib.hid ((hb4.block _ (lt_of_heap HR3.out)).trans HR3.out)
    have HN4 := Lib.hid ((hb4.block _ (lt_of_heap HN3.out)).trans HN3.out)
    have HV34 := Lib.hid (HV3.out.far hb4)
    have HB4 := Lib.hid (HB3.out.trans (hb4.mono HB3.out.size))
    clear hb4 hv4 hct
    rw [HT.out] at HV4
    simp only [HT.out]
    have HPF : Hid (PF w (w4.alloc (.cells #[.int .i64 s2, .bool b2, .slice a2 n2 c2] 147)) w2.heap.size w4.heap.size s1 b1 a1 n1 c1 s2 b2 a2 n2 c2 ((some n).getD 0) ((some d).getD 0)) := Lib.hid ⟨(Below.heap_alloc w4 _ _ (lt_of_heap HR4.out)).trans HR4.out, (Below.heap_alloc w4 _ _ (lt_of_heap HN4.out)).trans HN4.out, heap_alloc_new w4 _, HV34.out.alloc_of _, HV4.out.alloc_of _, HB4.out.alloc HB4.out.size _⟩
    clear HR3 HN3 HV3 HB3 HV34 HV2 HB2 HR2
    go_wp2_with fail
    refine (sign_any _ _ _ HPF.out.vd).mono ?_
    rintro e w5 ⟨rfl, hb5⟩
    have HP5 := Lib.hid (HPF.out.far hb5)
    clear hb5
    obtain ⟨⟨x0, x1, x2⟩, ⟨y0, y1, y2⟩⟩ := HP5.out.cells
    clear HR4 HN4 HB4 HV4 HPF
    go_wp2_with fail
    refine (isOne_any _ _ _ HP5.out.vd).mono ?_
    rintro e w6 ⟨rfl, hb6⟩
    have HP6 := Lib.hid (HP5.out.far hb6)
    clear hb6
    clear x0 x1 x2 y0 y1 y2 HP5
    obtain ⟨⟨x0, x1, x2⟩, ⟨y0, y1, y2⟩⟩ := HP6.out.cells
    obtain ⟨⟨r0, r1, r2, r3, r4, r5⟩, fr⟩ := ResR.cells HP6.out.hr
    go_wp2_with fail
    exact end_rb (q := 0) Tryz.results116 rfl rfl rfl HP6.out.hr (zeroIV _) (zeroIV _) HP6.out.bel (Nat.le_refl _) (fun w3 v h1 h2 => ⟨v, by rw [HZ.out]; rfl, by rw [HZ.out]; exact h1, h2⟩)
  · refine (hct _).mono ?_
    rintro e w4 ⟨v4, rfl, hv4, hb4⟩
    have HV4 := Lib.hid hv4
    obtain ⟨s2, b2, a2, n2, c2, rfl⟩ := iv_form hv4
    have HR4 := Lib.hid ((hb4.block _ (lt_of_heap HR3.out)).trans HR3.out)
    have HN4 := Lib.hid ((hb4.block _ (lt_of_heap HN3.out)).trans HN3.out)
    have HV34 := Lib.hid (HV3.out.far hb4)
    have HB4 := Lib.hid (HB3.out.trans (hb4.mono HB3.out.size))
    clear hb4 hv4 hct
    rw [HT.out] at HV4
    simp only [HT.out]
    have HPF : Hid (PF w (w4.alloc (.cells #[.int .i64 s2, .bool b2, .slice a2 n2 c2] 147)) w2.heap.size w4.heap.size s1 b1 a1 n1 c1 s2 b2 a2 n2 c2 ((some n).getD 0) ((some d).getD 0)) := Lib.hid ⟨(Below.heap_alloc w4 _ _ (lt_of_heap HR4.out)).trans HR4.out, (Below.heap_alloc w4 _ _ (lt_of_heap HN4.out)).trans HN4.out, heap_alloc_new w4 _, HV34.out.alloc_of _, HV4.out.alloc_of _, HB4.out.alloc HB4.out.size _⟩
    clear HR3 HN3 HV3 HB3 HV34 HV2 HB2 HR2
    go_wp2_with fail
    refine (sign_any _ _ _ HPF.out.vd).mono ?_
    rintro e w5 ⟨rfl, hb5⟩
    have HP5 := Lib.hid (HPF.out.far hb5)
    clear hb5
    obtain ⟨⟨x0, x1, x2⟩, ⟨y0, y1, y2⟩⟩ := HP5.out.cells
    clear HR4 HN4 HB4 HV4 HPF
    go_wp2_with fail
    refine (isOne_any _ _ _ HP5.out.vd).mono ?_
    rintro e w6 ⟨rfl, hb6⟩
    have HP6 := Lib.hid (HP5.out.far hb6)
    clear hb6
    clear x0 x1 x2 y0 y1 y2 HP5
    obtain ⟨⟨x0, x1, x2⟩, ⟨y0, y1, y2⟩⟩ := HP6.out.cells
    go_wp2_with fail
    refine (isZero_any _ _ _ HP6.out.vn).mono ?_
    rintro e w7 ⟨rfl, hb7⟩
    have HP7 := Lib.hid (HP6.out.far hb7)
    clear hb7
    clear x0 x1 x2 y0 y1 y2 HP6
    obtain ⟨⟨x0, x1, x2⟩, ⟨y0, y1, y2⟩⟩ := HP7.out.cells
    obtain ⟨⟨r0, r1, r2, r3, r4, r5⟩, fr⟩ := ResR.cells HP7.out.hr
    go_wp2_with fail
    exact end_rb (q := 0) Tryz.results116 rfl rfl rfl HP7.out.hr (zeroIV _) (zeroIV _) HP7.out.bel (Nat.le_refl _) (fun w3 v h1 h2 => ⟨v, by rw [HZ.out]; rfl, by rw [HZ.out]; exact h1, h2⟩)
  · refine (hct _).mono ?_
    rintro e w4 ⟨v4, rfl, hv4, hb4⟩
    have HV4 := Lib.hid hv4
    obtain ⟨s2, b2, a2, n2, c2, rfl⟩ := iv_form hv4
    have HR4 := Lib.hid ((hb4.block _ (lt_of_heap HR3.out)).trans HR3.out)
    have HN4 := Lib.hid ((hb4.block _ (lt_of_heap HN3.out)).trans HN3.out)
    have HV34 := Lib.hid (HV3.out.far hb4)
    have HB4 := Lib.hid (HB3.out.trans (hb4.mono HB3.out.size))
    clear hb4 hv4 hct
    rw [HT.out] at HV4
    simp only [HT.out]
    have HPF : Hid (PF w (w4.alloc (.cells #[.int .i64 s2, .bool b2, .slice a2 n2 c2] 147)) w2.heap.size w4.heap.size s1 b1 a1 n1 c1 s2 b2 a2 n2 c2 ((some n).getD 0) ((some d).getD 0)) := Lib.hid ⟨(Below.heap_alloc w4 _ _ (lt_of_heap HR4.out)).trans HR4.out, (Below.heap_alloc w4 _ _ (lt_of_heap HN4.out)).trans HN4.out, heap_alloc_new w4 _, HV34.out.alloc_of _, HV4.out.alloc_of _, HB4.out.alloc HB4.out.size _⟩
    clear HR3 HN3 HV3 HB3 HV34 HV2 HB2 HR2
    go_wp2_with fail
    refine (sign_any _ _ _ HPF.out.vd).mono ?_
    rintro e w5 ⟨rfl, hb5⟩
    have HP5 := Lib.hid (HPF.out.far hb5)
    clear hb5
    obtain ⟨⟨x0, x1, x2⟩, ⟨y0, y1, y2⟩⟩ := HP5.out.cells
    clear HR4 HN4 HB4 HV4 HPF
    go_wp2_with fail
    refine (isOne_any _ _ _ HP5.out.vd).mono ?_
    rintro e w6 ⟨rfl, hb6⟩
    have HP6 := Lib.hid (HP5.out.far hb6)
    clear hb6
    clear x0 x1 x2 y0 y1 y2 HP5
    obtain ⟨⟨x0, x1, x2⟩, ⟨y0, y1, y2⟩⟩ := HP6.out.cells
    go_wp2_with fail
    refine (isZero_any _ _ _ HP6.out.vn).mono ?_
    rintro e w7 ⟨rfl, hb7⟩
    have HP7 := Lib.hid (HP6.out.far hb7)
    clear hb7
    clear x0 x1 x2 y0 y1 y2 HP6
    obtain ⟨⟨x0, x1, x2⟩, ⟨y0, y1, y2⟩⟩ := HP7.out.cells
    go_wp2_with fail
    refine (hgcd _ _ _ HP7.out.vn HP7.out.vd).mono ?_
    rintro e w8 ⟨v8, rfl, hv8, hb8⟩
    have HV8 := Lib.hid hv8
    obtain ⟨s8, b8, a8, n8, c8, rfl⟩ := iv_form hv8
    have HP8 := Lib.hid (HP7.out.far hb8)
    clear x0 x1 x2 y0 y1 y2 HP7 hv8 hb8
    go_wp2_with fail
    refine (isOne_any _ _ _ HV8.out).mono ?_
    rintro e w9 ⟨rfl, hb9⟩
    have HP9 := Lib.hid (HP8.out.far hb9)
    clear HP8 hb9
    obtain ⟨⟨x0, x1, x2⟩, ⟨y0, y1, y2⟩⟩ := HP9.out.cells
    obtain ⟨⟨r0, r1, r2, r3, r4, r5⟩, fr⟩ := ResR.cells HP9.out.hr
    go_wp2_with fail
    exact end_rb (q := 0) Tryz.results116 rfl rfl rfl HP9.out.hr (zeroIV _) (zeroIV _) HP9.out.bel (Nat.le_refl _) (fun w3 v h1 h2 => ⟨v, by rw [HZ.out]; rfl, by rw [HZ.out]; exact h1, h2⟩)
  · refine (hct _).mono ?_
    rintro e w4 ⟨v4, rfl, hv4, hb4⟩
    have HV4 := Lib.hid hv4
    obtain ⟨s2, b2, a2, n2, c2, rfl⟩ := iv_form hv4
    have HR4 := Lib.hid ((hb4.block _ (lt_of_heap HR3.out)).trans HR3.out)
    have HN4 := Lib.hid ((hb4.block _ (lt_of_heap HN3.out)).trans HN3.out)
    have HV34 := Lib.hid (HV3.out.far hb4)
    have HB4 := Lib.hid (HB3.out.trans (hb4.mono HB3.out.size))
    clear hb4 hv4 hct
    rw [HT.out] at HV4
    simp only [HT.out]
    have HPF : Hid (PF w (w4.alloc (.cells #[.int .i64 s2, .bool b2, .slice a2 n2 c2] 147)) w2.heap.size w4.heap.size s1 b1 a1 n1 c1 s2 b2 a2 n2 c2 ((some n).getD 0) ((some d).getD 0)) := Lib.hid ⟨(Below.heap_alloc w4 _ _ (lt_of_heap HR4.out)).trans HR4.out, (Below.heap_alloc w4 _ _ (lt_of_heap HN4.out)).trans HN4.out, heap_alloc_new w4 _, HV34.out.alloc_of _, HV4.out.alloc_of _, HB4.out.alloc HB4.out.size _⟩
    clear HR3 HN3 HV3 HB3 HV34 HV2 HB2 HR2
    go_wp2_with fail
    refine (sign_any _ _ _ HPF.out.vd).mono ?_
    rintro e w5 ⟨rfl, hb5⟩
    have HP5 := Lib.hid (HPF.out.far hb5)
    clear hb5
    obtain ⟨⟨x0, x1, x2⟩, ⟨y0, y1, y2⟩⟩ := HP5.out.cells
    clear HR4 HN4 HB4 HV4 HPF
    go_wp2_with fail
    refine (isOne_any _ _ _ HP5.out.vd).mono ?_
    rintro e w6 ⟨rfl, hb6⟩
    have HP6 := Lib.hid (HP5.out.far hb6)
    clear hb6
    clear x0 x1 x2 y0 y1 y2 HP5
    obtain ⟨⟨x0, x1, x2⟩, ⟨y0, y1, y2⟩⟩ := HP6.out.cells
    go_wp2_with fail
    refine (isZero_any _ _ _ HP6.out.vn).mono ?_
    rintro e w7 ⟨rfl, hb7⟩
    have HP7 := Lib.hid (HP6.out.far hb7)
    clear hb7
    clear x0 x1 x2 y0 y1 y2 HP6
    obtain ⟨⟨x0, x1, x2⟩, ⟨y0, y1, y2⟩⟩ := HP7.out.cells
    go_wp2_with fail
    refine (hgcd _ _ _ HP7.out.vn HP7.out.vd).mono ?_
    rintro e w8 ⟨v8, rfl, hv8, hb8⟩
    have HV8 := Lib.hid hv8
    obtain ⟨s8, b8, a8, n8, c8, rfl⟩ := iv_form hv8
    have HP8 := Lib.hid (HP7.out.far hb8)
    clear x0 x1 x2 y0 y1 y2 HP7 hv8 hb8
    go_wp2_with fail
    refine (isOne_any _ _ _ HV8.out).mono ?_
    rintro e w9 ⟨rfl, hb9⟩
    have HP9 := Lib.hid (HP8.out.far hb9)
    clear HP8 hb9
    obtain ⟨⟨x0, x1, x2⟩, ⟨y0, y1, y2⟩⟩ := HP9.out.cells
    obtain ⟨⟨r0, r1, r2, r3, r4, r5⟩, fr⟩ := ResR.cells HP9.out.hr
    go_wp2_with fail
    exact end_rb (q := q) Tryz.results116 rfl rfl rfl HP9.out.hr (by rw [HZ2.out]; exact HP9.out.vn) (by rw [HZ3.out]; exact HP9.out.vd) HP9.out.bel (Nat.le_refl _) (fun w3 v h1 h2 => ⟨v, by rw [HZ.out]; rfl, by rw [HZ.out]; exact h1, h2⟩)
theorem parse_any (m : Int) (s : ByteArray) (w : World) (hs : s.size ≤ 1000000) (h0 : 3 < w.heap.size) (hM : w.cell? ⟨3, 0, none⟩ = some (.int .i64 m))
    (hg : ∀ n d, canonF (upto s.data.toList) = some n → canonF (behind s.data.toList) = some d → 1 < d → GcdOk n d) : Calls Tryz.prog 116 #[.string s] w (ParsePost s.data.toList w) := by
  by_cases hc : s.data.toList.contains 47 = true
  · cases hu : canonF (upto s.data.toList) with
    | none => exact parse_all.1 m s w hs h0 hM hc hu
    | some n =>
      cases ht : canonF (behind s.data.toList) with
      | none => exact parse_all.2.1 m s w hs h0 hM hc hu ht
      | some d =>
        by_cases h1 : d ≤ 0
        · exact parse_all.2.2.1 m s w hs h0 hM hc hu ht h1
        · by_cases h2 : d = 1
          · exact parse_all.2.2.2.1 m s w hs h0 hM hc hu ht h2
          · by_cases h3 : n = 0
            · exact parse_all.2.2.2.2.1 m s w hs h0 hM hc hu ht (by omega) h3
            · by_cases h4 : Int.gcd n d = 1
              · exact parse_all.2.2.2.2.2.2 m s w hs h0 hM hc hu ht (by omega) h3 h4 (hg n d hu ht (by omega))
              · exact parse_all.2.2.2.2.2.1 m s w hs h0 hM hc hu ht (by omega) h3 h4 (hg n d hu ht (by omega))
  · exact parse_int m s w hs h0 hM (by simpa using hc)
end
end Go.Proofs.YthefknoicelhaaaGreatDoor

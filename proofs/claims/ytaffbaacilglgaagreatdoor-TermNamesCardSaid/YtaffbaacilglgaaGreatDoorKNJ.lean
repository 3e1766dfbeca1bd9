/- Parse of package exact at texts with a slash. -/
import Derived.Test.YtaffbaacilglgaaGreatDoorKNH
import Derived.Lib.SmallJoins
import Derived.StillTailTactics
import Derived.Lib.AppendIntMem
namespace Go.Proofs.YtaffbaacilglgaaGreatDoor
open Go.RowKit Nmx

/-- Gcd does what it should at these two integers -/
def GcdOk (n d : Int) : Prop := ∀ (x y : Value) (W : World), IV W x n → IV W y d → Calls Tryz.prog 123 #[x, y] W (GetsI (Int.gcd n d) W)
/-- where Parse stands behind both integers -/
structure PF (w wx : World) (N D : Nat) (s1 : Int) (b1 : Bool) (a1 : Option Addr) (n1 c1 : Nat) (s2 : Int) (b2 : Bool) (a2 : Option Addr) (n2 c2 : Nat) (n d : Int) : Prop where
  hr : wx.heap[w.heap.size]? = some (.cells #[.int .i64 0, .bool false, .slice none 0 0, .int .i64 0, .bool false, .slice none 0 0] 130 (0, 0))
  hn : wx.heap[N]? = some (.cells #[.int .i64 s1, .bool b1, .slice a1 n1 c1] 125 (0, 0))
  hd : wx.heap[D]? = some (.cells #[.int .i64 s2, .bool b2, .slice a2 n2 c2] 125 (0, 0))
  vn : IV wx (.agg #[.int .i64 s1, .bool b1, .slice a1 n1 c1]) n
  vd : IV wx (.agg #[.int .i64 s2, .bool b2, .slice a2 n2 c2]) d
  bel : Below w.heap.size w wx
section
variable {w wx w1 : World} {N D : Nat} {s1 : Int} {b1 : Bool} {a1 : Option Addr} {n1 c1 : Nat} {s2 : Int} {b2 : Bool} {a2 : Option Addr} {n2 c2 : Nat} {n d : Int}
theorem PF.far (h : PF w wx N D s1 b1 a1 n1 c1 s2 b2 a2 n2 c2 n d) (hb : Below wx.heap.size wx w1) : PF w w1 N D s1 b1 a1 n1 c1 s2 b2 a2 n2 c2 n d :=
  ⟨(hb.block _ (lt_of_heap h.hr)).trans h.hr, (hb.block _ (lt_of_heap h.hn)).trans h.hn, (hb.block _ (lt_of_heap h.hd)).trans h.hd, h.vn.far hb, h.vd.far hb, h.bel.trans (hb.mono h.bel.size)⟩
theorem PF.cells (h : PF w wx N D s1 b1 a1 n1 c1 s2 b2 a2 n2 c2 n d) : (wx.cell? ⟨N, 0, none⟩ = some (.int .i64 s1) ∧ wx.cell? ⟨N, 1, none⟩ = some (.bool b1) ∧ wx.cell? ⟨N, 2, none⟩ = some (.slice a1 n1 c1)) ∧ (wx.cell? ⟨D, 0, none⟩ = some (.int .i64 s2) ∧ wx.cell? ⟨D, 1, none⟩ = some (.bool b2) ∧ wx.cell? ⟨D, 2, none⟩ = some (.slice a2 n2 c2)) :=
  ⟨⟨heap_cell h.hn 0, heap_cell h.hn 1, heap_cell h.hn 2⟩, ⟨heap_cell h.hd 0, heap_cell h.hd 1, heap_cell h.hd 2⟩⟩
end
theorem ratF_frac {l : List UInt8} (h : l.contains 47 = true) : (canonF (upto l) = none → ratF l = none) ∧ (canonF (behind l) = none → ratF l = none) ∧ ∀ n d, canonF (upto l) = some n → canonF (behind l) = some d →
    (d ≤ 0 ∨ d = 1 ∨ n = 0 ∨ Int.gcd n d ≠ 1 → ratF l = none) ∧ (1 < d → n ≠ 0 → Int.gcd n d = 1 → ∃ q, ratF l = some q ∧ q.num = n ∧ denI q = d) := by
  unfold ratF
  rw [if_neg (by rw [h]; simp)]
  refine ⟨fun h1 => by rw [h1], fun h1 => by rw [h1]; cases canonF (upto l) <;> rfl, fun n d h1 h2 => ?_⟩
  rw [h1, h2]
  refine ⟨fun h3 => ?_, fun h3 h4 h5 => ?_⟩
  · simp only
    rw [dif_neg]
    rintro ⟨g1, g2, g3⟩
    rcases h3 with h3 | h3 | h3 | h3
    · omega
    · omega
    · exact g2 h3
    · exact h3 g3
  · simp only
    rw [dif_pos ⟨h3, h4, h5⟩]
    refine ⟨_, rfl, rfl, ?_⟩
    unfold denI
    simp only
    rw [if_neg (by omega)]; omega

section
set_option maxRecDepth 100000
set_option maxHeartbeats 4000000
theorem parse_no1 (m : Int) (s : ByteArray) (w : World) (hs : s.size ≤ 1000000) (h0 : 0 < w.heap.size) (hM : w.cell? ⟨0, 0, none⟩ = some (.int .i64 m)) (hc : s.data.toList.contains 47 = true) (hu1 : canonF (upto s.data.toList) = none) : Calls Tryz.prog 90 #[.string s] w (ParsePost s.data.toList w) := by
  have hcut := fun (W : World) (hW : W.cell? ⟨0, 0, none⟩ = some (.int .i64 m)) => Tryz.strings_Cut s ⟨#[47]⟩ m W (by omega) hW
  have hcs : Lib.cut s.data.toList (⟨#[47]⟩ : ByteArray).data.toList = (upto s.data.toList, behind s.data.toList, true) := by
    have := cut_slash s.data.toList
    rw [hc] at this; exact this
  rw [hcs] at hcut
  simp only at hcut
  obtain ⟨u, hu⟩ : ∃ u : ByteArray, (⟨(upto s.data.toList).toArray⟩ : ByteArray) = u := ⟨_, rfl⟩
  obtain ⟨t, ht⟩ : ∃ t : ByteArray, (⟨(behind s.data.toList).toArray⟩ : ByteArray) = t := ⟨_, rfl⟩
  rw [hu, ht] at hcut
  have hul : u.data.toList = upto s.data.toList := by rw [← hu]
  have htl : t.data.toList = behind s.data.toList := by rw [← ht]
  have hback := congrArg List.length (cut_back hc)
  rw [List.length_append, List.length_cons, ← hul, ← htl, size_data, size_data, size_data] at hback
  have hcu := fun W => canonicalInt_any u W (by omega)
  rw [hul] at hcu
  have HU := Lib.hid hu1
  have HZ := Lib.hid ((ratF_frac hc).1 hu1)
  clear hu1
  have hM1 : (w.alloc (.cells #[.int .i64 0, .bool false, .slice none 0 0, .int .i64 0, .bool false, .slice none 0 0] 130)).cell? ⟨0, 0, none⟩ = some (.int .i64 m) := (World.cell?_alloc_past _ _ _ h0).trans hM
  have HBL : Hid (Below w.heap.size w (w.alloc (.cells #[.int .i64 0, .bool false, .slice none 0 0, .int .i64 0, .bool false, .slice none 0 0] 130))) := Lib.hid ((Below.refl _ _).alloc (Nat.le_refl _) _)
  have HRR : Hid ((w.alloc (.cells #[.int .i64 0, .bool false, .slice none 0 0, .int .i64 0, .bool false, .slice none 0 0] 130)).heap[w.heap.size]? = some (.cells #[.int .i64 0, .bool false, .slice none 0 0, .int .i64 0, .bool false, .slice none 0 0] 130 (0, 0))) := Lib.hid (heap_alloc_new w _)
  clear hcs hM hc hback hul htl hu ht hs
  go_enter Tryz.func90, Tryz.ntmps90
  go_wp2_with fail
  refine (hcut _ hM1).mono ?_
  rintro e w1 ⟨rfl, nq, rfl⟩
  clear hM1 hcut
  go_wp2_with fail
  refine (hcu _).mono ?_
  rintro e w2 ⟨v2, rfl, hv2, hb2⟩
  have HV2 := Lib.hid hv2
  obtain ⟨s1, b1, a1, n1, c1, rfl⟩ := iv_form hv2
  have HB2 := Lib.hid ((below_drewN HBL.out nq).trans (hb2.mono (by simp)))
  have HR2 := Lib.hid ((hb2.block w.heap.size (by simp)).trans HRR.out)
  clear hb2 hv2 hcu
  have hlt := lt_of_heap HR2.out
  rw [HU.out] at HV2
  simp only [HU.out]
  obtain ⟨⟨r0, r1, r2, r3, r4, r5⟩, fr⟩ := ResR.cells HR2.out
  go_wp2_with fail
  exact end_rbA Tryz.results90 rfl rfl rfl HR2.out HV2.out (zeroIV _) HB2.out (Nat.le_refl _) (fun w3 v h1 h2 => ⟨v, by rw [HZ.out]; rfl, by rw [HZ.out]; exact h1, h2⟩)
theorem parse_no2 (m : Int) (s : ByteArray) (w : World) (hs : s.size ≤ 1000000) (h0 : 0 < w.heap.size) (hM : w.cell? ⟨0, 0, none⟩ = some (.int .i64 m)) (hc : s.data.toList.contains 47 = true) {n : Int} (hu1 : canonF (upto s.data.toList) = some n) (ht1 : canonF (behind s.data.toList) = none) : Calls Tryz.prog 90 #[.string s] w (ParsePost s.data.toList w) := by
  have hcut := fun (W : World) (hW : W.cell? ⟨0, 0, none⟩ = some (.int .i64 m)) => Tryz.strings_Cut s ⟨#[47]⟩ m W (by omega) hW
  have hcs : Lib.cut s.data.toList (⟨#[47]⟩ : ByteArray).data.toList = (upto s.data.toList, behind s.data.toList, true) := by
    have := cut_slash s.data.toList
    rw [hc] at this; exact this
  rw [hcs] at hcut
  simp only at hcut
  obtain ⟨u, hu⟩ : ∃ u : ByteArray, (⟨(upto s.data.toList).toArray⟩ : ByteArray) = u := ⟨_, rfl⟩
  obtain ⟨t, ht⟩ : ∃ t : ByteArray, (⟨(behind s.data.toList).toArray⟩ : ByteArray) = t := ⟨_, rfl⟩
  rw [hu, ht] at hcut
  have hul : u.data.toList = upto s.data.toList := by rw [← hu]
  have htl : t.data.toList = behind s.data.toList := by rw [← ht]
  have hback := congrArg List.length (cut_back hc)
  rw [List.length_append, List.length_cons, ← hul, ← htl, size_data, size_data, size_data] at hback
  have hcu := fun W => canonicalInt_any u W (by omega)
  have hct := fun W => canonicalInt_any t W (by omega)
  rw [hul] at hcu
  rw [htl] at hct
  have HU := Lib.hid hu1
  have HT := Lib.hid ht1
  have HZ := Lib.hid ((ratF_frac hc).2.1 ht1)
  clear hu1 ht1
  have hM1 : (w.alloc (.cells #[.int .i64 0, .bool false, .slice none 0 0, .int .i64 0, .bool false, .slice none 0 0] 130)).cell? ⟨0, 0, none⟩ = some (.int .i64 m) := (World.cell?_alloc_past _ _ _ h0).trans hM
  have HBL : Hid (Below w.heap.size w (w.alloc (.cells #[.int .i64 0, .bool false, .slice none 0 0, .int .i64 0, .bool false, .slice none 0 0] 130))) := Lib.hid ((Below.refl _ _).alloc (Nat.le_refl _) _)
  have HRR : Hid ((w.alloc (.cells #[.int .i64 0, .bool false, .slice none 0 0, .int .i64 0, .bool false, .slice none 0 0] 130)).heap[w.heap.size]? = some (.cells #[.int .i64 0, .bool false, .slice none 0 0, .int .i64 0, .bool false, .slice none 0 0] 130 (0, 0))) := Lib.hid (heap_alloc_new w _)
  clear hcs hM hc hback hul htl hu ht hs
  go_enter Tryz.func90, Tryz.ntmps90
  go_wp2_with fail
  refine (hcut _ hM1).mono ?_
  rintro e w1 ⟨rfl, nq, rfl⟩
  clear hM1 hcut
  go_wp2_with fail
  refine (hcu _).mono ?_
  rintro e w2 ⟨v2, rfl, hv2, hb2⟩
  have HV2 := Lib.hid hv2
  obtain ⟨s1, b1, a1, n1, c1, rfl⟩ := iv_form hv2
  have HB2 := Lib.hid ((below_drewN HBL.out nq).trans (hb2.mono (by simp)))
  have HR2 := Lib.hid ((hb2.block w.heap.size (by simp)).trans HRR.out)
  clear hb2 hv2 hcu
  have hlt := lt_of_heap HR2.out
  rw [HU.out] at HV2
  simp only [HU.out]
  have HR3 := Lib.hid ((Below.heap_alloc w2 (.cells #[.int .i64 s1, .bool b1, .slice a1 n1 c1] 125) _ hlt).trans HR2.out)
  have HN3 := Lib.hid (heap_alloc_new w2 (.cells #[.int .i64 s1, .bool b1, .slice a1 n1 c1] 125))
  have HV3 := Lib.hid (HV2.out.alloc_of (.cells #[.int .i64 s1, .bool b1, .slice a1 n1 c1] 125))
  have HB3 := Lib.hid (HB2.out.alloc HB2.out.size (.cells #[.int .i64 s1, .bool b1, .slice a1 n1 c1] 125))
  go_wp2_with fail
  refine (hct _).mono ?_
  rintro e w4 ⟨v4, rfl, hv4, hb4⟩
  have HV4 := Lib.hid hv4
  obtain ⟨s2, b2, a2, n2, c2, rfl⟩ := iv_form hv4
  have HR4 := Lib.hid ((hb4.block _ (lt_of_heap HR3.out)).trans HR3.out)
  have HN4 := Lib.hid ((hb4.block _ (lt_of_heap HN3.out)).trans HN3.out)
  have HV34 := Lib.hid (HV3.out.far hb4)
  have HB4 := Lib.hid (HB3.out.trans (hb4.mono HB3.out.size))
  clear hb4 hv4 hct
  rw [HT.out] at HV4
  simp only [HT.out]
  have HPF : Hid (PF w (w4.alloc (.cells #[.int .i64 s2, .bool b2, .slice a2 n2 c2] 125)) w2.heap.size w4.heap.size s1 b1 a1 n1 c1 s2 b2 a2 n2 c2 ((some n).getD 0) ((none : Option Int).getD 0)) := Lib.hid ⟨(Below.heap_alloc w4 _ _ (lt_of_heap HR4.out)).trans HR4.out, (Below.heap_alloc w4 _ _ (lt_of_heap HN4.out)).trans HN4.out, heap_alloc_new w4 _, HV34.out.alloc_of _, HV4.out.alloc_of _, HB4.out.alloc HB4.out.size _⟩
  clear HR3 HN3 HV3 HB3 HV34 HV2 HB2 HR2
  have hlt4 := lt_of_heap HR4.out
  obtain ⟨⟨r0, r1, r2, r3, r4, r5⟩, fr⟩ := ResR.cells HR4.out
  go_wp2_with fail
  exact end_rbA (q := 0) Tryz.results90 rfl rfl rfl HR4.out (zeroIV _) (zeroIV _) HB4.out (Nat.le_refl _) (fun w3 v h1 h2 => ⟨v, by rw [HZ.out]; rfl, by rw [HZ.out]; exact h1, h2⟩)
theorem parse_le (m : Int) (s : ByteArray) (w : World) (hs : s.size ≤ 1000000) (h0 : 0 < w.heap.size) (hM : w.cell? ⟨0, 0, none⟩ = some (.int .i64 m)) (hc : s.data.toList.contains 47 = true) {n d : Int} (hu1 : canonF (upto s.data.toList) = some n) (ht1 : canonF (behind s.data.toList) = some d) (hd : d ≤ 0) : Calls Tryz.prog 90 #[.string s] w (ParsePost s.data.toList w) := by
  have hcut := fun (W : World) (hW : W.cell? ⟨0, 0, none⟩ = some (.int .i64 m)) => Tryz.strings_Cut s ⟨#[47]⟩ m W (by omega) hW
  have hcs : Lib.cut s.data.toList (⟨#[47]⟩ : ByteArray).data.toList = (upto s.data.toList, behind s.data.toList, true) := by
    have := cut_slash s.data.toList
    rw [hc] at this; exact this
  rw [hcs] at hcut
  simp only at hcut
  obtain ⟨u, hu⟩ : ∃ u : ByteArray, (⟨(upto s.data.toList).toArray⟩ : ByteArray) = u := ⟨_, rfl⟩
  obtain ⟨t, ht⟩ : ∃ t : ByteArray, (⟨(behind s.data.toList).toArray⟩ : ByteArray) = t := ⟨_, rfl⟩
  rw [hu, ht] at hcut
  have hul : u.data.toList = upto s.data.toList := by rw [← hu]
  have htl : t.data.toList = behind s.data.toList := by rw [← ht]
  have hback := congrArg List.length (cut_back hc)
  rw [List.length_append, List.length_cons, ← hul, ← htl, size_data, size_data, size_data] at hback
  have hcu := fun W => canonicalInt_any u W (by omega)
  have hct := fun W => canonicalInt_any t W (by omega)
  rw [hul] at hcu
  rw [htl] at hct
  have HU := Lib.hid hu1
  have HT := Lib.hid ht1
  have hsg : sgnI d ≤ 0 := by unfold sgnI; grind
  have HZ := Lib.hid (((ratF_frac hc).2.2 n d hu1 ht1).1 (.inl hd))
  clear hd
  clear hu1 ht1
  have hM1 : (w.alloc (.cells #[.int .i64 0, .bool false, .slice none 0 0, .int .i64 0, .bool false, .slice none 0 0] 130)).cell? ⟨0, 0, none⟩ = some (.int .i64 m) := (World.cell?_alloc_past _ _ _ h0).trans hM
  have HBL : Hid (Below w.heap.size w (w.alloc (.cells #[.int .i64 0, .bool false, .slice none 0 0, .int .i64 0, .bool false, .slice none 0 0] 130))) := Lib.hid ((Below.refl _ _).alloc (Nat.le_refl _) _)
  have HRR : Hid ((w.alloc (.cells #[.int .i64 0, .bool false, .slice none 0 0, .int .i64 0, .bool false, .slice none 0 0] 130)).heap[w.heap.size]? = some (.cells #[.int .i64 0, .bool false, .slice none 0 0, .int .i64 0, .bool false, .slice none 0 0] 130 (0, 0))) := Lib.hid (heap_alloc_new w _)
  clear hcs hM hc hback hul htl hu ht hs
  go_enter Tryz.func90, Tryz.ntmps90
  go_wp2_with fail
  refine (hcut _ hM1).mono ?_
  rintro e w1 ⟨rfl, nq, rfl⟩
  clear hM1 hcut
  go_wp2_with fail
  refine (hcu _).mono ?_
  rintro e w2 ⟨v2, rfl, hv2, hb2⟩
  have HV2 := Lib.hid hv2
  obtain ⟨s1, b1, a1, n1, c1, rfl⟩ := iv_form hv2
  have HB2 := Lib.hid ((below_drewN HBL.out nq).trans (hb2.mono (by simp)))
  have HR2 := Lib.hid ((hb2.block w.heap.size (by simp)).trans HRR.out)
  clear hb2 hv2 hcu
  have hlt := lt_of_heap HR2.out
  rw [HU.out] at HV2
  simp only [HU.out]
  have HR3 := Lib.hid ((Below.heap_alloc w2 (.cells #[.int .i64 s1, .bool b1, .slice a1 n1 c1] 125) _ hlt).trans HR2.out)
  have HN3 := Lib.hid (heap_alloc_new w2 (.cells #[.int .i64 s1, .bool b1, .slice a1 n1 c1] 125))
  have HV3 := Lib.hid (HV2.out.alloc_of (.cells #[.int .i64 s1, .bool b1, .slice a1 n1 c1] 125))
  have HB3 := Lib.hid (HB2.out.alloc HB2.out.size (.cells #[.int .i64 s1, .bool b1, .slice a1 n1 c1] 125))
  go_wp2_with fail
  refine (hct _).mono ?_
  rintro e w4 ⟨v4, rfl, hv4, hb4⟩
  have HV4 := Lib.hid hv4
  obtain ⟨s2, b2, a2, n2, c2, rfl⟩ := iv_form hv4
  have HR4 := Lib.hid ((hb4.block _ (lt_of_heap HR3.out)).trans HR3.out)
  have HN4 := Lib.hid ((hb4.block _ (lt_of_heap HN3.out)).trans HN3.out)
  have HV34 := Lib.hid (HV3.out.far hb4)
  have HB4 := Lib.hid (HB3.out.trans (hb4.mono HB3.out.size))
  clear hb4 hv4 hct
  rw [HT.out] at HV4
  simp only [HT.out]
  have HPF : Hid (PF w (w4.alloc (.cells #[.int .i64 s2, .bool b2, .slice a2 n2 c2] 125)) w2.heap.size w4.heap.size s1 b1 a1 n1 c1 s2 b2 a2 n2 c2 ((some n).getD 0) ((some d).getD 0)) := Lib.hid ⟨(Below.heap_alloc w4 _ _ (lt_of_heap HR4.out)).trans HR4.out, (Below.heap_alloc w4 _ _ (lt_of_heap HN4.out)).trans HN4.out, heap_alloc_new w4 _, HV34.out.alloc_of _, HV4.out.alloc_of _, HB4.out.alloc HB4.out.size _⟩
  clear HR3 HN3 HV3 HB3 HV34 HV2 HB2 HR2
  go_wp2_with fail
  refine (sign_any _ _ _ HPF.out.vd).mono ?_
  rintro e w5 ⟨rfl, hb5⟩
  have HP5 := Lib.hid (HPF.out.far hb5)
  clear hb5
  obtain ⟨⟨x0, x1, x2⟩, ⟨y0, y1, y2⟩⟩ := HP5.out.cells
  clear HR4 HN4 HB4 HV4 HPF
  obtain ⟨⟨r0, r1, r2, r3, r4, r5⟩, fr⟩ := ResR.cells HP5.out.hr
  go_wp2_with fail
  exact end_rb (q := 0) Tryz.results90 rfl rfl rfl HP5.out.hr (zeroIV _) (zeroIV _) HP5.out.bel (Nat.le_refl _) (fun w3 v h1 h2 => ⟨v, by rw [HZ.out]; rfl, by rw [HZ.out]; exact h1, h2⟩)
theorem parse_one (m : Int) (s : ByteArray) (w : World) (hs : s.size ≤ 1000000) (h0 : 0 < w.heap.size) (hM : w.cell? ⟨0, 0, none⟩ = some (.int .i64 m)) (hc : s.data.toList.contains 47 = true) {n d : Int} (hu1 : canonF (upto s.data.toList) = some n) (ht1 : canonF (behind s.data.toList) = some d) (hd : d = 1) : Calls Tryz.prog 90 #[.string s] w (ParsePost s.data.toList w) := by
  have hcut := fun (W : World) (hW : W.cell? ⟨0, 0, none⟩ = some (.int .i64 m)) => Tryz.strings_Cut s ⟨#[47]⟩ m W (by omega) hW
  have hcs : Lib.cut s.data.toList (⟨#[47]⟩ : ByteArray).data.toList = (upto s.data.toList, behind s.data.toList, true) := by
    have := cut_slash s.data.toList
    rw [hc] at this; exact this
  rw [hcs] at hcut
  simp only at hcut
  obtain ⟨u, hu⟩ : ∃ u : ByteArray, (⟨(upto s.data.toList).toArray⟩ : ByteArray) = u := ⟨_, rfl⟩
  obtain ⟨t, ht⟩ : ∃ t : ByteArray, (⟨(behind s.data.toList).toArray⟩ : ByteArray) = t := ⟨_, rfl⟩
  rw [hu, ht] at hcut
  have hul : u.data.toList = upto s.data.toList := by rw [← hu]
  have htl : t.data.toList = behind s.data.toList := by rw [← ht]
  have hback := congrArg List.length (cut_back hc)
  rw [List.length_append, List.length_cons, ← hul, ← htl, size_data, size_data, size_data] at hback
  have hcu := fun W => canonicalInt_any u W (by omega)
  have hct := fun W => canonicalInt_any t W (by omega)
  rw [hul] at hcu
  rw [htl] at hct
  have HU := Lib.hid hu1
  have HT := Lib.hid ht1
  have hsg : ¬ sgnI d ≤ 0 := by rw [hd]; decide
  have HZ := Lib.hid (((ratF_frac hc).2.2 n d hu1 ht1).1 (.inr (.inl hd)))
  have hd1 : decide (d = 1) = true := decide_eq_true hd
  clear hd
  clear hu1 ht1
  have hM1 : (w.alloc (.cells #[.int .i64 0, .bool false, .slice none 0 0, .int .i64 0, .bool false, .slice none 0 0] 130)).cell? ⟨0, 0, none⟩ = some (.int .i64 m) := (World.cell?_alloc_past _ _ _ h0).trans hM
  have HBL : Hid (Below w.heap.size w (w.alloc (.cells #[.int .i64 0, .bool false, .slice none 0 0, .int .i64 0, .bool false, .slice none 0 0] 130))) := Lib.hid ((Below.refl _ _).alloc (Nat.le_refl _) _)
  have HRR : Hid ((w.alloc (.cells #[.int .i64 0, .bool false, .slice none 0 0, .int .i64 0, .bool false, .slice none 0 0] 130)).heap[w.heap.size]? = some (.cells #[.int .i64 0, .bool false, .slice none 0 0, .int .i64 0, .bool false, .slice none 0 0] 130 (0, 0))) := Lib.hid (heap_alloc_new w _)
  clear hcs hM hc hback hul htl hu ht hs
  go_enter Tryz.func90, Tryz.ntmps90
  go_wp2_with fail
  refine (hcut _ hM1).mono ?_
  rintro e w1 ⟨rfl, nq, rfl⟩
  clear hM1 hcut
  go_wp2_with fail
  refine (hcu _).mono ?_
  rintro e w2 ⟨v2, rfl, hv2, hb2⟩
  have HV2 := Lib.hid hv2
  obtain ⟨s1, b1, a1, n1, c1, rfl⟩ := iv_form hv2
  have HB2 := Lib.hid ((below_drewN HBL.out nq).trans (hb2.mono (by simp)))
  have HR2 := Lib.hid ((hb2.block w.heap.size (by simp)).trans HRR.out)
  clear hb2 hv2 hcu
  have hlt := lt_of_heap HR2.out
  rw [HU.out] at HV2
  simp only [HU.out]
  have HR3 := Lib.hid ((Below.heap_alloc w2 (.cells #[.int .i64 s1, .bool b1, .slice a1 n1 c1] 125) _ hlt).trans HR2.out)
  have HN3 := Lib.hid (heap_alloc_new w2 (.cells #[.int .i64 s1, .bool b1, .slice a1 n1 c1] 125))
  have HV3 := Lib.hid (HV2.out.alloc_of (.cells #[.int .i64 s1, .bool b1, .slice a1 n1 c1] 125))
  have HB3 := Lib.hid (HB2.out.alloc HB2.out.size (.cells #[.int .i64 s1, .bool b1, .slice a1 n1 c1] 125))
  go_wp2_with fail
  refine (hct _).mono ?_
  rintro e w4 ⟨v4, rfl, hv4, hb4⟩
  have HV4 := Lib.hid hv4
  obtain ⟨s2, b2, a2, n2, c2, rfl⟩ := iv_form hv4
  have HR4 := Lib.hid ((hb4.block _ (lt_of_heap HR3.out)).trans HR3.out)
  have HN4 := Lib.hid ((hb4.block _ (lt_of_heap HN3.out)).trans HN3.out)
  have HV34 := Lib.hid (HV3.out.far hb4)
  have HB4 := Lib.hid (HB3.out.trans (hb4.mono HB3.out.size))
  clear hb4 hv4 hct
  rw [HT.out] at HV4
  simp only [HT.out]
  have HPF : Hid (PF w (w4.alloc (.cells #[.int .i64 s2, .bool b2, .slice a2 n2 c2] 125)) w2.heap.size w4.heap.size s1 b1 a1 n1 c1 s2 b2 a2 n2 c2 ((some n).getD 0) ((some d).getD 0)) := Lib.hid ⟨(Below.heap_alloc w4 _ _ (lt_of_heap HR4.out)).trans HR4.out, (Below.heap_alloc w4 _ _ (lt_of_heap HN4.out)).trans HN4.out, heap_alloc_new w4 _, HV34.out.alloc_of _, HV4.out.alloc_of _, HB4.out.alloc HB4.out.size _⟩
  clear HR3 HN3 HV3 HB3 HV34 HV2 HB2 HR2
  go_wp2_with fail
  refine (sign_any _ _ _ HPF.out.vd).mono ?_
  rintro e w5 ⟨rfl, hb5⟩
  have HP5 := Lib.hid (HPF.out.far hb5)
  clear hb5
  obtain ⟨⟨x0, x1, x2⟩, ⟨y0, y1, y2⟩⟩ := HP5.out.cells
  clear HR4 HN4 HB4 HV4 HPF
  go_wp2_with fail
  refine (isOne_any _ _ _ HP5.out.vd).mono ?_
  rintro e w6 ⟨rfl, hb6⟩
  have HP6 := Lib.hid (HP5.out.far hb6)
  clear hb6
  clear x0 x1 x2 y0 y1 y2 HP5
  obtain ⟨⟨x0, x1, x2⟩, ⟨y0, y1, y2⟩⟩ := HP6.out.cells
  obtain ⟨⟨r0, r1, r2, r3, r4, r5⟩, fr⟩ := ResR.cells HP6.out.hr
  go_wp2_with fail
  exact end_rb (q := 0) Tryz.results90 rfl rfl rfl HP6.out.hr (zeroIV _) (zeroIV _) HP6.out.bel (Nat.le_refl _) (fun w3 v h1 h2 => ⟨v, by rw [HZ.out]; rfl, by rw [HZ.out]; exact h1, h2⟩)
theorem parse_zero (m : Int) (s : ByteArray) (w : World) (hs : s.size ≤ 1000000) (h0 : 0 < w.heap.size) (hM : w.cell? ⟨0, 0, none⟩ = some (.int .i64 m)) (hc : s.data.toList.contains 47 = true) {n d : Int} (hu1 : canonF (upto s.data.toList) = some n) (ht1 : canonF (behind s.data.toList) = some d) (hd : 1 < d) (hn : n = 0) : Calls Tryz.prog 90 #[.string s] w (ParsePost s.data.toList w) := by
  have hcut := fun (W : World) (hW : W.cell? ⟨0, 0, none⟩ = some (.int .i64 m)) => Tryz.strings_Cut s ⟨#[47]⟩ m W (by omega) hW
  have hcs : Lib.cut s.data.toList (⟨#[47]⟩ : ByteArray).data.toList = (upto s.data.toList, behind s.data.toList, true) := by
    have := cut_slash s.data.toList
    rw [hc] at this; exact this
  rw [hcs] at hcut
  simp only at hcut
  obtain ⟨u, hu⟩ : ∃ u : ByteArray, (⟨(upto s.data.toList).toArray⟩ : ByteArray) = u := ⟨_, rfl⟩
  obtain ⟨t, ht⟩ : ∃ t : ByteArray, (⟨(behind s.data.toList).toArray⟩ : ByteArray) = t := ⟨_, rfl⟩
  rw [hu, ht] at hcut
  have hul : u.data.toList = upto s.data.toList := by rw [← hu]
  have htl : t.data.toList = behind s.data.toList := by rw [← ht]
  have hback := congrArg List.length (cut_back hc)
  rw [List.length_append, List.length_cons, ← hul, ← htl, size_data, size_data, size_data] at hback
  have hcu := fun W => canonicalInt_any u W (by omega)
  have hct := fun W => canonicalInt_any t W (by omega)
  rw [hul] at hcu
  rw [htl] at hct
  have HU := Lib.hid hu1
  have HT := Lib.hid ht1
  have hsg : ¬ sgnI d ≤ 0 := by unfold sgnI; grind
  have HZ := Lib.hid (((ratF_frac hc).2.2 n d hu1 ht1).1 (.inr (.inr (.inl hn))))
  have hd1 : decide (d = 1) = false := decide_eq_false (by omega)
  have hn1 : decide (n = 0) = true := decide_eq_true hn
  clear hd hn
  clear hu1 ht1
  have hM1 : (w.alloc (.cells #[.int .i64 0, .bool false, .slice none 0 0, .int .i64 0, .bool false, .slice none 0 0] 130)).cell? ⟨0, 0, none⟩ = some (.int .i64 m) := (World.cell?_alloc_past _ _ _ h0).trans hM
  have HBL : Hid (Below w.heap.size w (w.alloc (.cells #[.int .i64 0, .bool false, .slice none 0 0, .int .i64 0, .bool false, .slice none 0 0] 130))) := Lib.hid ((Below.refl _ _).alloc (Nat.le_refl _) _)
  have HRR : Hid ((w.alloc (.cells #[.int .i64 0, .bool false, .slice none 0 0, .int .i64 0, .bool false, .slice none 0 0] 130)).heap[w.heap.size]? = some (.cells #[.int .i64 0, .bool false, .slice none 0 0, .int .i64 0, .bool false, .slice none 0 0] 130 (0, 0))) := Lib.hid (heap_alloc_new w _)
  clear hcs hM hc hback hul htl hu ht hs
  go_enter Tryz.func90, Tryz.ntmps90
  go_wp2_with fail
  refine (hcut _ hM1).mono ?_
  rintro e w1 ⟨rfl, nq, rfl⟩
  clear hM1 hcut
  go_wp2_with fail
  refine (hcu _).mono ?_
  rintro e w2 ⟨v2, rfl, hv2, hb2⟩
  have HV2 := Lib.hid hv2
  obtain ⟨s1, b1, a1, n1, c1, rfl⟩ := iv_form hv2
  have HB2 := Lib.hid ((below_drewN HBL.out nq).trans (hb2.mono (by simp)))
  have HR2 := Lib.hid ((hb2.block w.heap.size (by simp)).trans HRR.out)
  clear hb2 hv2 hcu
  have hlt := lt_of_heap HR2.out
  rw [HU.out] at HV2
  simp only [HU.out]
  have HR3 := Lib.hid ((Below.heap_alloc w2 (.cells #[.int .i64 s1, .bool b1, .slice a1 n1 c1] 125) _ hlt).trans HR2.out)
  have HN3 := Lib.hid (heap_alloc_new w2 (.cells #[.int .i64 s1, .bool b1, .slice a1 n1 c1] 125))
  have HV3 := Lib.hid (HV2.out.alloc_of (.cells #[.int .i64 s1, .bool b1, .slice a1 n1 c1] 125))
  have HB3 := Lib.hid (HB2.out.alloc HB2.out.size (.cells #[.int .i64 s1, .bool b1, .slice a1 n1 c1] 125))
  go_wp2_with fail
  refine (hct _).mono ?_
  rintro e w4 ⟨v4, rfl, hv4, hb4⟩
  have HV4 := Lib.hid hv4
  obtain ⟨s2, b2, a2, n2, c2, rfl⟩ := iv_form hv4
  have HR4 := Lib.hid ((hb4.block _ (lt_of_heap HR3.out)).trans HR3.out)
  have HN4 := Lib.hid ((hb4.block _ (lt_of_heap HN3.out)).trans HN3.out)
  have HV34 := Lib.hid (HV3.out.far hb4)
  have HB4 := Lib.hid (HB3.out.trans (hb4.mono HB3.out.size))
  clear hb4 hv4 hct
  rw [HT.out] at HV4
  simp only [HT.out]
  have HPF : Hid (PF w (w4.alloc (.cells #[.int .i64 s2, .bool b2, .slice a2 n2 c2] 125)) w2.heap.size w4.heap.size s1 b1 a1 n1 c1 s2 b2 a2 n2 c2 ((some n).getD 0) ((some d).getD 0)) := Lib.hid ⟨(Below.heap_alloc w4 _ _ (lt_of_heap HR4.out)).trans HR4.out, (Below.heap_alloc w4 _ _ (lt_of_heap HN4.out)).trans HN4.out, heap_alloc_new w4 _, HV34.out.alloc_of _, HV4.out.alloc_of _, HB4.out.alloc HB4.out.size _⟩
  clear HR3 HN3 HV3 HB3 HV34 HV2 HB2 HR2
  go_wp2_with fail
  refine (sign_any _ _ _ HPF.out.vd).mono ?_
  rintro e w5 ⟨rfl, hb5⟩
  have HP5 := Lib.hid (HPF.out.far hb5)
  clear hb5
  obtain ⟨⟨x0, x1, x2⟩, ⟨y0, y1, y2⟩⟩ := HP5.out.cells
  clear HR4 HN4 HB4 HV4 HPF
  go_wp2_with fail
  refine (isOne_any _ _ _ HP5.out.vd).mono ?_
  rintro e w6 ⟨rfl, hb6⟩
  have HP6 := Lib.hid (HP5.out.far hb6)
  clear hb6
  clear x0 x1 x2 y0 y1 y2 HP5
  obtain ⟨⟨x0, x1, x2⟩, ⟨y0, y1, y2⟩⟩ := HP6.out.cells
  go_wp2_with fail
  refine (isZero_any _ _ _ HP6.out.vn).mono ?_
  rintro e w7 ⟨rfl, hb7⟩
  have HP7 := Lib.hid (HP6.out.far hb7)
  clear hb7
  clear x0 x1 x2 y0 y1 y2 HP6
  obtain ⟨⟨x0, x1, x2⟩, ⟨y0, y1, y2⟩⟩ := HP7.out.cells
  obtain ⟨⟨r0, r1, r2, r3, r4, r5⟩, fr⟩ := ResR.cells HP7.out.hr
  go_wp2_with fail
  exact end_rb (q := 0) Tryz.results90 rfl rfl rfl HP7.out.hr (zeroIV _) (zeroIV _) HP7.out.bel (Nat.le_refl _) (fun w3 v h1 h2 => ⟨v, by rw [HZ.out]; rfl, by rw [HZ.out]; exact h1, h2⟩)
theorem parse_gcd (m : Int) (s : ByteArray) (w : World) (hs : s.size ≤ 1000000) (h0 : 0 < w.heap.size) (hM : w.cell? ⟨0, 0, none⟩ = some (.int .i64 m)) (hc : s.data.toList.contains 47 = true) {n d : Int} (hu1 : canonF (upto s.data.toList) = some n) (ht1 : canonF (behind s.data.toList) = some d) (hd : 1 < d) (hn : n ≠ 0) (hg : Int.gcd n d ≠ 1) (hgcd : GcdOk n d) : Calls Tryz.prog 90 #[.string s] w (ParsePost s.data.toList w) := by
  have hcut := fun (W : World) (hW : W.cell? ⟨0, 0, none⟩ = some (.int .i64 m)) => Tryz.strings_Cut s ⟨#[47]⟩ m W (by omega) hW
  have hcs : Lib.cut s.data.toList (⟨#[47]⟩ : ByteArray).data.toList = (upto s.data.toList, behind s.data.toList, true) := by
    have := cut_slash s.data.toList
    rw [hc] at this; exact this
  rw [hcs] at hcut
  simp only at hcut
  obtain ⟨u, hu⟩ : ∃ u : ByteArray, (⟨(upto s.data.toList).toArray⟩ : ByteArray) = u := ⟨_, rfl⟩
  obtain ⟨t, ht⟩ : ∃ t : ByteArray, (⟨(behind s.data.toList).toArray⟩ : ByteArray) = t := ⟨_, rfl⟩
  rw [hu, ht] at hcut
  have hul : u.data.toList = upto s.data.toList := by rw [← hu]
  have htl : t.data.toList = behind s.data.toList := by rw [← ht]
  have hback := congrArg List.length (cut_back hc)
  rw [List.length_append, List.length_cons, ← hul, ← htl, size_data, size_data, size_data] at hback
  have hcu := fun W => canonicalInt_any u W (by omega)
  have hct := fun W => canonicalInt_any t W (by omega)
  rw [hul] at hcu
  rw [htl] at hct
  have HU := Lib.hid hu1
  have HT := Lib.hid ht1
  have hsg : ¬ sgnI d ≤ 0 := by unfold sgnI; grind
  have HZ := Lib.hid (((ratF_frac hc).2.2 n d hu1 ht1).1 (.inr (.inr (.inr hg))))
  have hd1 : decide (d = 1) = false := decide_eq_false (by omega)
  have hn1 : decide (n = 0) = false := decide_eq_false hn
  have hg1 : decide ((Int.gcd n d : Int) = 1) = false := decide_eq_false (by omega)
  clear hd hn hg
  clear hu1 ht1
  have hM1 : (w.alloc (.cells #[.int .i64 0, .bool false, .slice none 0 0, .int .i64 0, .bool false, .slice none 0 0] 130)).cell? ⟨0, 0, none⟩ = some (.int .i64 m) := (World.cell?_alloc_past _ _ _ h0).trans hM
  have HBL : Hid (Below w.heap.size w (w.alloc (.cells #[.int .i64 0, .bool false, .slice none 0 0, .int .i64 0, .bool false, .slice none 0 0] 130))) := Lib.hid ((Below.refl _ _).alloc (Nat.le_refl _) _)
  have HRR : Hid ((w.alloc (.cells #[.int .i64 0, .bool false, .slice none 0 0, .int .i64 0, .bool false, .slice none 0 0] 130)).heap[w.heap.size]? = some (.cells #[.int .i64 0, .bool false, .slice none 0 0, .int .i64 0, .bool false, .slice none 0 0] 130 (0, 0))) := Lib.hid (heap_alloc_new w _)
  clear hcs hM hc hback hul htl hu ht hs
  go_enter Tryz.func90, Tryz.ntmps90
  go_wp2_with fail
  refine (hcut _ hM1).mono ?_
  rintro e w1 ⟨rfl, nq, rfl⟩
  clear hM1 hcut
  go_wp2_with fail
  refine (hcu _).mono ?_
  rintro e w2 ⟨v2, rfl, hv2, hb2⟩
  have HV2 := Lib.hid hv2
  obtain ⟨s1, b1, a1, n1, c1, rfl⟩ := iv_form hv2
  have HB2 := Lib.hid ((below_drewN HBL.out nq).trans (hb2.mono (by simp)))
  have HR2 := Lib.hid ((hb2.block w.heap.size (by simp)).trans HRR.out)
  clear hb2 hv2 hcu
  have hlt := lt_of_heap HR2.out
  rw [HU.out] at HV2
  simp only [HU.out]
  have HR3 := Lib.hid ((Below.heap_alloc w2 (.cells #[.int .i64 s1, .bool b1, .slice a1 n1 c1] 125) _ hlt).trans HR2.out)
  have HN3 := Lib.hid (heap_alloc_new w2 (.cells #[.int .i64 s1, .bool b1, .slice a1 n1 c1] 125))
  have HV3 := Lib.hid (HV2.out.alloc_of (.cells #[.int .i64 s1, .bool b1, .slice a1 n1 c1] 125))
  have HB3 := Lib.hid (HB2.out.alloc HB2.out.size (.cells #[.int .i64 s1, .bool b1, .slice a1 n1 c1] 125))
  go_wp2_with fail
  refine (hct _).mono ?_
  rintro e w4 ⟨v4, rfl, hv4, hb4⟩
  have HV4 := Lib.hid hv4
  obtain ⟨s2, b2, a2, n2, c2, rfl⟩ := iv_form hv4
  have HR4 := Lib.hid ((hb4.block _ (lt_of_heap HR3.out)).trans HR3.out)
  have HN4 := Lib.hid ((hb4.block _ (lt_of_heap HN3.out)).trans HN3.out)
  have HV34 := Lib.hid (HV3.out.far hb4)
  have HB4 := Lib.hid (HB3.out.trans (hb4.mono HB3.out.size))
  clear hb4 hv4 hct
  rw [HT.out] at HV4
  simp only [HT.out]
  have HPF : Hid (PF w (w4.alloc (.cells #[.int .i64 s2, .bool b2, .slice a2 n2 c2] 125)) w2.heap.size w4.heap.size s1 b1 a1 n1 c1 s2 b2 a2 n2 c2 ((some n).getD 0) ((some d).getD 0)) := Lib.hid ⟨(Below.heap_alloc w4 _ _ (lt_of_heap HR4.out)).trans HR4.out, (Below.heap_alloc w4 _ _ (lt_of_heap HN4.out)).trans HN4.out, heap_alloc_new w4 _, HV34.out.alloc_of _, HV4.out.alloc_of _, HB4.out.alloc HB4.out.size _⟩
  clear HR3 HN3 HV3 HB3 HV34 HV2 HB2 HR2
  go_wp2_with fail
  refine (sign_any _ _ _ HPF.out.vd).mono ?_
  rintro e w5 ⟨rfl, hb5⟩
  have HP5 := Lib.hid (HPF.out.far hb5)
  clear hb5
  obtain ⟨⟨x0, x1, x2⟩, ⟨y0, y1, y2⟩⟩ := HP5.out.cells
  clear HR4 HN4 HB4 HV4 HPF
  go_wp2_with fail
  refine (isOne_any _ _ _ HP5.out.vd).mono ?_
  rintro e w6 ⟨rfl, hb6⟩
  have HP6 := Lib.hid (HP5.out.far hb6)
  clear hb6
  clear x0 x1 x2 y0 y1 y2 HP5
  obtain ⟨⟨x0, x1, x2⟩, ⟨y0, y1, y2⟩⟩ := HP6.out.cells
  go_wp2_with fail
  refine (isZero_any _ _ _ HP6.out.vn).mono ?_
  rintro e w7 ⟨rfl, hb7⟩
  have HP7 := Lib.hid (HP6.out.far hb7)
  clear hb7
  clear x0 x1 x2 y0 y1 y2 HP6
  obtain ⟨⟨x0, x1, x2⟩, ⟨y0, y1, y2⟩⟩ := HP7.out.cells
  go_wp2_with fail
  refine (hgcd _ _ _ HP7.out.vn HP7.out.vd).mono ?_
  rintro e w8 ⟨v8, rfl, hv8, hb8⟩
  have HV8 := Lib.hid hv8
  obtain ⟨s8, b8, a8, n8, c8, rfl⟩ := iv_form hv8
  have HP8 := Lib.hid (HP7.out.far hb8)
  clear x0 x1 x2 y0 y1 y2 HP7 hv8 hb8
  go_wp2_with fail
  refine (isOne_any _ _ _ HV8.out).mono ?_
  rintro e w9 ⟨rfl, hb9⟩
  have HP9 := Lib.hid (HP8.out.far hb9)
  clear HP8 hb9
  obtain ⟨⟨x0, x1, x2⟩, ⟨y0, y1, y2⟩⟩ := HP9.out.cells
  obtain ⟨⟨r0, r1, r2, r3, r4, r5⟩, fr⟩ := ResR.cells HP9.out.hr
  go_wp2_with fail
  exact end_rb (q := 0) Tryz.results90 rfl rfl rfl HP9.out.hr (zeroIV _) (zeroIV _) HP9.out.bel (Nat.le_refl _) (fun w3 v h1 h2 => ⟨v, by rw [HZ.out]; rfl, by rw [HZ.out]; exact h1, h2⟩)
theorem parse_ok (m : Int) (s : ByteArray) (w : World) (hs : s.size ≤ 1000000) (h0 : 0 < w.heap.size) (hM : w.cell? ⟨0, 0, none⟩ = some (.int .i64 m)) (hc : s.data.toList.contains 47 = true) {n d : Int} (hu1 : canonF (upto s.data.toList) = some n) (ht1 : canonF (behind s.data.toList) = some d) (hd : 1 < d) (hn : n ≠ 0) (hg : Int.gcd n d = 1) (hgcd : GcdOk n d) : Calls Tryz.prog 90 #[.string s] w (ParsePost s.data.toList w) := by
  have hcut := fun (W : World) (hW : W.cell? ⟨0, 0, none⟩ = some (.int .i64 m)) => Tryz.strings_Cut s ⟨#[47]⟩ m W (by omega) hW
  have hcs : Lib.cut s.data.toList (⟨#[47]⟩ : ByteArray).data.toList = (upto s.data.toList, behind s.data.toList, true) := by
    have := cut_slash s.data.toList
    rw [hc] at this; exact this
  rw [hcs] at hcut
  simp only at hcut
  obtain ⟨u, hu⟩ : ∃ u : ByteArray, (⟨(upto s.data.toList).toArray⟩ : ByteArray) = u := ⟨_, rfl⟩
  obtain ⟨t, ht⟩ : ∃ t : ByteArray, (⟨(behind s.data.toList).toArray⟩ : ByteArray) = t := ⟨_, rfl⟩
  rw [hu, ht] at hcut
  have hul : u.data.toList = upto s.data.toList := by rw [← hu]
  have htl : t.data.toList = behind s.data.toList := by rw [← ht]
  have hback := congrArg List.length (cut_back hc)
  rw [List.length_append, List.length_cons, ← hul, ← htl, size_data, size_data, size_data] at hback
  have hcu := fun W => canonicalInt_any u W (by omega)
  have hct := fun W => canonicalInt_any t W (by omega)
  rw [hul] at hcu
  rw [htl] at hct
  have HU := Lib.hid hu1
  have HT := Lib.hid ht1
  have hsg : ¬ sgnI d ≤ 0 := by unfold sgnI; grind
  obtain ⟨q, z1, z2, z3⟩ := ((ratF_frac hc).2.2 n d hu1 ht1).2 hd hn hg
  have HZ := Lib.hid z1
  have HZ2 := Lib.hid z2
  have HZ3 := Lib.hid z3
  have hd1 : decide (d = 1) = false := decide_eq_false (by omega)
  have hn1 : decide (n = 0) = false := decide_eq_false hn
  have hg1 : decide ((Int.gcd n d : Int) = 1) = true := decide_eq_true (by omega)
  clear hd hn hg z1 z2 z3
  clear hu1 ht1
  have hM1 : (w.alloc (.cells #[.int .i64 0, .bool false, .slice none 0 0, .int .i64 0, .bool false, .slice none 0 0] 130)).cell? ⟨0, 0, none⟩ = some (.int .i64 m) := (World.cell?_alloc_past _ _ _ h0).trans hM
  have HBL : Hid (Below w.heap.size w (w.alloc (.cells #[.int .i64 0, .bool false, .slice none 0 0, .int .i64 0, .bool false, .slice none 0 0] 130))) := Lib.hid ((Below.refl _ _).alloc (Nat.le_refl _) _)
  have HRR : Hid ((w.alloc (.cells #[.int .i64 0, .bool false, .slice none 0 0, .int .i64 0, .bool false, .slice none 0 0] 130)).heap[w.heap.size]? = some (.cells #[.int .i64 0, .bool false, .slice none 0 0, .int .i64 0, .bool false, .slice none 0 0] 130 (0, 0))) := Lib.hid (heap_alloc_new w _)
  clear hcs hM hc hback hul htl hu ht hs
  go_enter Tryz.func90, Tryz.ntmps90
  go_wp2_with fail
  refine (hcut _ hM1).mono ?_
  rintro e w1 ⟨rfl, nq, rfl⟩
  clear hM1 hcut
  go_wp2_with fail
  refine (hcu _).mono ?_
  rintro e w2 ⟨v2, rfl, hv2, hb2⟩
  have HV2 := Lib.hid hv2
  obtain ⟨s1, b1, a1, n1, c1, rfl⟩ := iv_form hv2
  have HB2 := Lib.hid ((below_drewN HBL.out nq).trans (hb2.mono (by simp)))
  have HR2 := Lib.hid ((hb2.block w.heap.size (by simp)).trans HRR.out)
  clear hb2 hv2 hcu
  have hlt := lt_of_heap HR2.out
  rw [HU.out] at HV2
  simp only [HU.out]
  have HR3 := Lib.hid ((Below.heap_alloc w2 (.cells #[.int .i64 s1, .bool b1, .slice a1 n1 c1] 125) _ hlt).trans HR2.out)
  have HN3 := Lib.hid (heap_alloc_new w2 (.cells #[.int .i64 s1, .bool b1, .slice a1 n1 c1] 125))
  have HV3 := Lib.hid (HV2.out.alloc_of (.cells #[.int .i64 s1, .bool b1, .slice a1 n1 c1] 125))
  have HB3 := Lib.hid (HB2.out.alloc HB2.out.size (.cells #[.int .i64 s1, .bool b1, .slice a1 n1 c1] 125))
  go_wp2_with fail
  refine (hct _).mono ?_
  rintro e w4 ⟨v4, rfl, hv4, hb4⟩
  have HV4 := Lib.hid hv4
  obtain ⟨s2, b2, a2, n2, c2, rfl⟩ := iv_form hv4
  have HR4 := Lib.hid ((hb4.block _ (lt_of_heap HR3.out)).trans HR3.out)
  have HN4 := Lib.hid ((hb4.block _ (lt_of_heap HN3.out)).trans HN3.out)
  have HV34 := Lib.hid (HV3.out.far hb4)
  have HB4 := Lib.hid (HB3.out.trans (hb4.mono HB3.out.size))
  clear hb4 hv4 hct
  rw [HT.out] at HV4
  simp only [HT.out]
  have HPF : Hid (PF w (w4.alloc (.cells #[.int .i64 s2, .bool b2, .slice a2 n2 c2] 125)) w2.heap.size w4.heap.size s1 b1 a1 n1 c1 s2 b2 a2 n2 c2 ((some n).getD 0) ((some d).getD 0)) := Lib.hid ⟨(Below.heap_alloc w4 _ _ (lt_of_heap HR4.out)).trans HR4.out, (Below.heap_alloc w4 _ _ (lt_of_heap HN4.out)).trans HN4.out, heap_alloc_new w4 _, HV34.out.alloc_of _, HV4.out.alloc_of _, HB4.out.alloc HB4.out.size _⟩
  clear HR3 HN3 HV3 HB3 HV34 HV2 HB2 HR2
  go_wp2_with fail
  refine (sign_any _ _ _ HPF.out.vd).mono ?_
  rintro e w5 ⟨rfl, hb5⟩
  have HP5 := Lib.hid (HPF.out.far hb5)
  clear hb5
  obtain ⟨⟨x0, x1, x2⟩, ⟨y0, y1, y2⟩⟩ := HP5.out.cells
  clear HR4 HN4 HB4 HV4 HPF
  go_wp2_with fail
  refine (isOne_any _ _ _ HP5.out.vd).mono ?_
  rintro e w6 ⟨rfl, hb6⟩
  have HP6 := Lib.hid (HP5.out.far hb6)
  clear hb6
  clear x0 x1 x2 y0 y1 y2 HP5
  obtain ⟨⟨x0, x1, x2⟩, ⟨y0, y1, y2⟩⟩ := HP6.out.cells
  go_wp2_with fail
  refine (isZero_any _ _ _ HP6.out.vn).mono ?_
  rintro e w7 ⟨rfl, hb7⟩
  have HP7 := Lib.hid (HP6.out.far hb7)
  clear hb7
  clear x0 x1 x2 y0 y1 y2 HP6
  obtain ⟨⟨x0, x1, x2⟩, ⟨y0, y1, y2⟩⟩ := HP7.out.cells
  go_wp2_with fail
  refine (hgcd _ _ _ HP7.out.vn HP7.out.vd).mono ?_
  rintro e w8 ⟨v8, rfl, hv8, hb8⟩
  have HV8 := Lib.hid hv8
  obtain ⟨s8, b8, a8, n8, c8, rfl⟩ := iv_form hv8
  have HP8 := Lib.hid (HP7.out.far hb8)
  clear x0 x1 x2 y0 y1 y2 HP7 hv8 hb8
  go_wp2_with fail
  refine (isOne_any _ _ _ HV8.out).mono ?_
  rintro e w9 ⟨rfl, hb9⟩
  have HP9 := Lib.hid (HP8.out.far hb9)
  clear HP8 hb9
  obtain ⟨⟨x0, x1, x2⟩, ⟨y0, y1, y2⟩⟩ := HP9.out.cells
  obtain ⟨⟨r0, r1, r2, r3, r4, r5⟩, fr⟩ := ResR.cells HP9.out.hr
  go_wp2_with fail
  exact end_rb (q := q) Tryz.results90 rfl rfl rfl HP9.out.hr (by rw [HZ2.out]; exact HP9.out.vn) (by rw [HZ3.out]; exact HP9.out.vd) HP9.out.bel (Nat.le_refl _) (fun w3 v h1 h2 => ⟨v, by rw [HZ.out]; rfl, by rw [HZ.out]; exact h1, h2⟩)
theorem parse_any (m : Int) (s : ByteArray) (w : World) (hs : s.size ≤ 1000000) (h0 : 0 < w.heap.size) (hM : w.cell? ⟨0, 0, none⟩ = some (.int .i64 m))
    (hg : ∀ n d, canonF (upto s.data.toList) = some n → canonF (behind s.data.toList) = some d → 1 < d → GcdOk n d) : Calls Tryz.prog 90 #[.string s] w (ParsePost s.data.toList w) := by
  by_cases hc : s.data.toList.contains 47 = true
  · cases hu : canonF (upto s.data.toList) with
    | none => exact parse_no1 m s w hs h0 hM hc hu
    | some n =>
      cases ht : canonF (behind s.data.toList) with
      | none => exact parse_no2 m s w hs h0 hM hc hu ht
      | some d =>
        by_cases h1 : d ≤ 0
        · exact parse_le m s w hs h0 hM hc hu ht h1
        · by_cases h2 : d = 1
          · exact parse_one m s w hs h0 hM hc hu ht h2
          · by_cases h3 : n = 0
            · exact parse_zero m s w hs h0 hM hc hu ht (by omega) h3
            · by_cases h4 : Int.gcd n d = 1
              · exact parse_ok m s w hs h0 hM hc hu ht (by omega) h3 h4 (hg n d hu ht (by omega))
              · exact parse_gcd m s w hs h0 hM hc hu ht (by omega) h3 h4 (hg n d hu ht (by omega))
  · exact parse_int m s w hs h0 hM (by simpa using hc)
end
end Go.Proofs.YtaffbaacilglgaaGreatDoor
/- Rat.IsInt, Num, Den, Sign of package exact; IsInt, Sign, Valid of package number. -/
namespace Go.Proofs.YtaffbaacilglgaaGreatDoor
open Go.RowKit Nmx

theorem denI_zero (q : Rat) : decide (denI q = 0) = decide (q.den = 1) := by
  have := q.den_nz
  unfold denI
  by_cases h : q.den = 1
  · rw [if_pos h]; simp [h]
  · rw [if_neg h]; simp [h]; exact this
theorem rv_form {w : World} {v : Value} {q : Rat} (h : RV w v q) : ∃ s1 b1 a1 n1 c1 s2 b2 a2 n2 c2, v = .agg #[.int .i64 s1, .bool b1, .slice a1 n1 c1, .int .i64 s2, .bool b2, .slice a2 n2 c2] ∧ IV w (.agg #[.int .i64 s1, .bool b1, .slice a1 n1 c1]) q.num ∧ IV w (.agg #[.int .i64 s2, .bool b2, .slice a2 n2 c2]) (denI q) := h
section
set_option maxRecDepth 100000
set_option maxHeartbeats 4000000
theorem ratIsInt_any (v : Value) (q : Rat) (w : World) (h : RV w v q) : Calls Tryz.prog 91 #[v] w fun e w' => e = .returned (.bool (decide (q.den = 1))) ∧ Below w.heap.size w w' := by
  obtain ⟨s1, b1, a1, n1, c1, s2, b2, a2, n2, c2, rfl, h1, h2⟩ := rv_form h
  have hz := fun o => isZero_any _ _ _ (h2.alloc_of o)
  rw [denI_zero] at hz
  clear h h1 h2
  go_enter Tryz.func91, Tryz.ntmps91
  go_wp2_with fail
  refine (hz _).mono ?_
  rintro e w1 ⟨rfl, hb1⟩
  go_wp2
  go_ret
  exact ⟨rfl, ((Below.refl _ _).alloc (Nat.le_refl _) _).trans (hb1.mono (by simp))⟩
theorem ratSign_any (v : Value) (q : Rat) (w : World) (h : RV w v q) : Calls Tryz.prog 92 #[v] w fun e w' => e = .returned (.int .i64 (sgnI q.num)) ∧ Below w.heap.size w w' := by
  obtain ⟨s1, b1, a1, n1, c1, s2, b2, a2, n2, c2, rfl, h1, h2⟩ := rv_form h
  have hz := fun o => sign_any _ _ _ (h1.alloc_of o)
  clear h h1 h2
  go_enter Tryz.func92, Tryz.ntmps92
  go_wp2_with fail
  refine (hz _).mono ?_
  rintro e w1 ⟨rfl, hb1⟩
  go_wp2
  go_ret
  exact ⟨rfl, ((Below.refl _ _).alloc (Nat.le_refl _) _).trans (hb1.mono (by simp))⟩
theorem ratNum_any (v : Value) (q : Rat) (w : World) (h : RV w v q) : Calls Tryz.prog 99 #[v] w (GetsI q.num w) := by
  obtain ⟨s1, b1, a1, n1, c1, s2, b2, a2, n2, c2, rfl, h1, h2⟩ := rv_form h
  have H1 := Lib.hid h1
  clear h h1 h2
  go_enter Tryz.func99, Tryz.ntmps99
  go_wp2
  have hbl := below2 w (.cells #[.int .i64 s1, .bool b1, .slice a1 n1 c1, .int .i64 s2, .bool b2, .slice a2 n2 c2] 130) (.cells #[.int .i64 s1, .bool b1, .slice a1 n1 c1] 125)
  exact bodyPost_ret (v := .agg #[.int .i64 s1, .bool b1, .slice a1 n1 c1]) (by simp [results, Tryz.results99, go_sem]) rfl ⟨_, rfl, H1.out.far hbl, hbl⟩

/-- whatever Gcd is asked at the text's two integers, it does what it should -/
def GcdAt (l : List UInt8) : Prop := ∀ n d, canonF (upto l) = some n → canonF (behind l) = some d → 1 < d → GcdOk n d
/-- what the library's and the project's variables hold, as far as texts want it -/
structure Env (w : World) : Prop where
  big : 0 < w.heap.size
  len : ∃ m : Int, w.cell? ⟨0, 0, none⟩ = some (.int .i64 m)
  tab : Lib.TabIs Tryz.prog w "internal/strconv.uint64pow10" .u64 Lib.pow10Tab
theorem Env.far {w w1 : World} (h : Env w) (hb : Below w.heap.size w w1) : Env w1 :=
  ⟨Nat.lt_of_lt_of_le h.big hb.size, let ⟨m, hm⟩ := h.len; ⟨m, (hb.cell (p := ⟨0, 0, none⟩) h.big).trans hm⟩, Go.Joins.tab_stays (g := 5) (by kernel_rfl) h.tab hb (Nat.le_refl _)⟩
theorem parse_env (s : ByteArray) (w : World) (hs : s.size ≤ 1000000) (h : Env w) (hg : GcdAt s.data.toList) : Calls Tryz.prog 90 #[.string s] w (ParsePost s.data.toList w) := by
  obtain ⟨m, hm⟩ := h.len
  exact parse_any m s w hs h.big hm hg

theorem numIsInt_any (s : ByteArray) (w : World) (hs : s.size ≤ 1000000) (h : Env w) (hg : GcdAt s.data.toList) : Calls Tryz.prog 61 #[.string s] w fun e w' => e = .returned (.bool (match ratF s.data.toList with | some q => decide (q.den = 1) | none => false)) ∧ Below w.heap.size w w' := by
  have hp := parse_env s w hs h hg
  cases hq : ratF s.data.toList with
  | none =>
    unfold ParsePost at hp
    rw [hq] at hp
    clear hq
    go_enter Tryz.func61, Tryz.ntmps61
    go_wp2_with fail
    refine hp.mono ?_
    rintro e w1 ⟨v, rfl, hv, hb1⟩
    obtain ⟨s1, b1, a1, n1, c1, s2, b2, a2, n2, c2, rfl, h1, h2⟩ := rv_form hv
    have HB := Lib.hid hb1
    clear hv h1 h2 hp hb1
    go_wp2_with fail
    go_ret
    exact ⟨rfl, HB.out.alloc HB.out.size _⟩
  | some q =>
    unfold ParsePost at hp
    rw [hq] at hp
    clear hq
    go_enter Tryz.func61, Tryz.ntmps61
    go_wp2_with fail
    refine hp.mono ?_
    rintro e w1 ⟨v, rfl, hv, hb1⟩
    have hi := fun o => ratIsInt_any v q (w1.alloc o) (hv.far ((Below.refl _ _).alloc (Nat.le_refl _) _))
    obtain ⟨s1, b1, a1, n1, c1, s2, b2, a2, n2, c2, rfl, h1, h2⟩ := rv_form hv
    have HB := Lib.hid hb1
    clear hv h1 h2 hp hb1
    go_wp2_with fail
    refine (hi _).mono ?_
    rintro e w2 ⟨rfl, hb2⟩
    have HB2 := Lib.hid ((HB.out.alloc HB.out.size _).trans (hb2.mono (by have := HB.out.size; simp; omega)))
    clear hb2 hi
    go_wp2_with fail
    go_ret
    exact ⟨rfl, HB2.out⟩
theorem numSign_any (s : ByteArray) (w : World) (hs : s.size ≤ 1000000) (h : Env w) (hg : GcdAt s.data.toList) : Calls Tryz.prog 62 #[.string s] w fun e w' => e = .returned (.int .i64 (sgnI ((ratF s.data.toList).getD 0).num)) ∧ Below w.heap.size w w' := by
  have hp := parse_env s w hs h hg
  unfold ParsePost at hp
  generalize ratF s.data.toList = oq at *
  go_enter Tryz.func62, Tryz.ntmps62
  go_wp2_with fail
  refine hp.mono ?_
  rintro e w1 ⟨v, rfl, hv, hb1⟩
  have hi := fun o => ratSign_any v _ (w1.alloc o) (hv.far ((Below.refl _ _).alloc (Nat.le_refl _) _))
  obtain ⟨s1, b1, a1, n1, c1, s2, b2, a2, n2, c2, rfl, h1, h2⟩ := rv_form hv
  have HB := Lib.hid hb1
  clear hv h1 h2 hp hb1
  go_wp2_with fail
  refine (hi _).mono ?_
  rintro e w2 ⟨rfl, hb2⟩
  have HB2 := Lib.hid ((HB.out.alloc HB.out.size _).trans (hb2.mono (by have := HB.out.size; simp; omega)))
  clear hb2 hi
  go_wp2_with fail
  go_ret
  exact ⟨rfl, HB2.out⟩
end
end Go.Proofs.YtaffbaacilglgaaGreatDoor
namespace Go.Proofs.YtaffbaacilglgaaGreatDoor
open Go.RowKit Nmx

theorem cell_set6 {w : World} {R g : Nat} (h : g ≠ R) (x0 x1 x2 x3 x4 x5 : Value) (i : Nat) : ((((((w.setCell ⟨R, 0, none⟩ x0).setCell ⟨R, 1, none⟩ x1).setCell ⟨R, 2, none⟩ x2).setCell ⟨R, 3, none⟩ x3).setCell ⟨R, 4, none⟩ x4).setCell ⟨R, 5, none⟩ x5).cell? ⟨g, i, none⟩ = w.cell? ⟨g, i, none⟩ := by
  apply World.cell?_of_block
  exact set6_other h x0 x1 x2 x3 x4 x5
def Dozen (w : World) (g h : Nat) (x0 x1 x2 x3 x4 x5 y0 y1 y2 y3 y4 y5 : Value) : Prop :=
  w.cell? ⟨g, 0, none⟩ = some x0 ∧ w.cell? ⟨g, 1, none⟩ = some x1 ∧ w.cell? ⟨g, 2, none⟩ = some x2 ∧ w.cell? ⟨g, 3, none⟩ = some x3 ∧ w.cell? ⟨g, 4, none⟩ = some x4 ∧ w.cell? ⟨g, 5, none⟩ = some x5 ∧ w.cell? ⟨h, 0, none⟩ = some y0 ∧ w.cell? ⟨h, 1, none⟩ = some y1 ∧ w.cell? ⟨h, 2, none⟩ = some y2 ∧ w.cell? ⟨h, 3, none⟩ = some y3 ∧ w.cell? ⟨h, 4, none⟩ = some y4 ∧ w.cell? ⟨h, 5, none⟩ = some y5
theorem Dozen.of {w : World} {g h : Nat} {x0 x1 x2 x3 x4 x5 y0 y1 y2 y3 y4 y5 : Value} {t t' : TypeId} (h1 : w.heap[g]? = some (.cells #[x0, x1, x2, x3, x4, x5] t (0, 0))) (h2 : w.heap[h]? = some (.cells #[y0, y1, y2, y3, y4, y5] t' (0, 0))) : Dozen w g h x0 x1 x2 x3 x4 x5 y0 y1 y2 y3 y4 y5 :=
  ⟨heap_cell h1 0, heap_cell h1 1, heap_cell h1 2, heap_cell h1 3, heap_cell h1 4, heap_cell h1 5, heap_cell h2 0, heap_cell h2 1, heap_cell h2 2, heap_cell h2 3, heap_cell h2 4, heap_cell h2 5⟩
theorem Dozen.set {w : World} {g h R : Nat} {x0 x1 x2 x3 x4 x5 y0 y1 y2 y3 y4 y5 : Value} (k : Dozen w g h x0 x1 x2 x3 x4 x5 y0 y1 y2 y3 y4 y5) (hg : g ≠ R) (hh : h ≠ R) (z0 z1 z2 z3 z4 z5 : Value) :
    Dozen ((((((w.setCell ⟨R, 0, none⟩ z0).setCell ⟨R, 1, none⟩ z1).setCell ⟨R, 2, none⟩ z2).setCell ⟨R, 3, none⟩ z3).setCell ⟨R, 4, none⟩ z4).setCell ⟨R, 5, none⟩ z5) g h x0 x1 x2 x3 x4 x5 y0 y1 y2 y3 y4 y5 := by
  obtain ⟨k0, k1, k2, k3, k4, k5, l0, l1, l2, l3, l4, l5⟩ := k
  exact ⟨(cell_set6 hg _ _ _ _ _ _ 0).trans k0, (cell_set6 hg _ _ _ _ _ _ 1).trans k1, (cell_set6 hg _ _ _ _ _ _ 2).trans k2, (cell_set6 hg _ _ _ _ _ _ 3).trans k3, (cell_set6 hg _ _ _ _ _ _ 4).trans k4, (cell_set6 hg _ _ _ _ _ _ 5).trans k5,
    (cell_set6 hh _ _ _ _ _ _ 0).trans l0, (cell_set6 hh _ _ _ _ _ _ 1).trans l1, (cell_set6 hh _ _ _ _ _ _ 2).trans l2, (cell_set6 hh _ _ _ _ _ _ 3).trans l3, (cell_set6 hh _ _ _ _ _ _ 4).trans l4, (cell_set6 hh _ _ _ _ _ _ 5).trans l5⟩
theorem RV.heap_same {w w' : World} {v : Value} {q : Rat} (h : RV w v q) {R : Nat} {cs : Array Value} {t : TypeId} {fr : Nat × Nat} (hR : w.heap[R]? = some (.cells cs t fr)) (ht : t ≠ 186) (ho : ∀ k, k ≠ R → w'.heap[k]? = w.heap[k]?) : RV w' v q :=
  let ⟨s1, b1, a1, n1, c1, s2, b2, a2, n2, c2, e, h1, h2⟩ := h
  ⟨s1, b1, a1, n1, c1, s2, b2, a2, n2, c2, e, h1.heap_same hR ht ho, h2.heap_same hR ht ho⟩

end Go.Proofs.YtaffbaacilglgaaGreatDoor
namespace Go.Proofs.YtaffbaacilglgaaGreatDoor
open Go.RowKit Nmx

end Go.Proofs.YtaffbaacilglgaaGreatDoor
namespace Go.Proofs.YtaffbaacilglgaaGreatDoor
open Go.RowKit Nmx

section
set_option maxRecDepth 100000
set_option maxHeartbeats 4000000
theorem intString_small (z : Int) (w : World) (h : Env w) (hz : Small z) : Calls Tryz.prog 125 #[smallV z] w fun e w' => e = .returned (.string ⟨(decI z).toArray⟩) ∧ Below w.heap.size w w' := by
  have kq0 := mag_eql0
  have hbl : ∀ o : Obj, Below w.heap.size w (w.alloc o) := fun o => (Below.refl _ _).alloc (Nat.le_refl _) _
  have hf := fun o => Tryz.strconv_FormatInt_10 z (by have := hz.1; omega) (by have := hz.2; omega) (w.alloc o) (h.far (hbl o)).tab
  rw [itoa_eq] at hf
  unfold smallV
  clear h hz
  go_enter Tryz.func125, Tryz.ntmps125
  go_wp2_with fail
  refine (hf _).mono ?_
  rintro e w1 ⟨rfl, k, os, hw⟩
  have HB : Hid (Below w.heap.size (w.alloc (.cells #[.int .i64 z, .bool false, .slice none 0 0] 125)) w1) := Lib.hid (by rw [hw]; exact Lib.below_grow w.heap.size _ (by simp) k os)
  clear hw
  go_wp2
  go_ret
  exact ⟨rfl, (hbl _).trans HB.out⟩
end
end Go.Proofs.YtaffbaacilglgaaGreatDoor
namespace Go.Proofs.YtaffbaacilglgaaGreatDoor
open Go.RowKit Nmx

theorem den_get (q : Rat) : (if q.den = 1 then (1 : Int) else denI q) = q.den := by
  unfold denI
  by_cases h : q.den = 1
  · rw [if_pos h, h]; rfl
  · rw [if_neg h, if_neg h]

section
set_option maxRecDepth 100000
set_option maxHeartbeats 4000000
theorem ratDen_any (v : Value) (q : Rat) (w : World) (h : RV w v q) : Calls Tryz.prog 101 #[v] w (GetsI q.den w) := by
  obtain ⟨s1, b1, a1, n1, c1, s2, b2, a2, n2, c2, rfl, h1, h2⟩ := rv_form h
  have HB0 := Lib.hid (below2 w (.cells #[.int .i64 s1, .bool b1, .slice a1 n1 c1, .int .i64 s2, .bool b2, .slice a2 n2 c2] 130) (.cells #[.int .i64 0, .bool false, .slice none 0 0] 125))
  have hz := isZero_any _ _ _ (h2.far HB0.out)
  rw [denI_zero] at hz
  have H2 := Lib.hid h2
  have HG := Lib.hid (den_get q)
  clear h h1 h2
  go_enter Tryz.func101, Tryz.ntmps101
  go_wp2_with fail
  refine hz.mono ?_
  rintro e w1 ⟨rfl, hb1⟩
  have HR1 := Lib.hid ((hb1.block w.heap.size (by simp; omega)).trans ((Below.heap_alloc _ _ _ (by simp)).trans (heap_alloc_new w _)))
  have HR2 := Lib.hid ((hb1.block (w.heap.size + 1) (by simp)).trans (new_second w _ _))
  have HB1 := Lib.hid (HB0.out.trans (hb1.mono (by simp; omega)))
  clear hb1 hz HB0
  by_cases hd : q.den = 1
  · have hdb : decide (q.den = 1) = true := by simpa using hd
    have hf := fromInt64_any 1 w1 (by omega) (by omega)
    have HE : Hid ((q.den : Int) = 1) := Lib.hid (by rw [hd]; rfl)
    clear hd HG
    go_wp2_with fail
    refine hf.mono ?_
    rintro e w2 ⟨v2, rfl, hv2, hb2⟩
    have HV2 := Lib.hid hv2
    obtain ⟨s3, b3, a3, n3, c3, rfl⟩ := iv_form hv2
    have HS2 := Lib.hid ((hb2.block _ (lt_of_heap HR2.out)).trans HR2.out)
    have HB2 := Lib.hid (HB1.out.trans (hb2.mono HB1.out.size))
    obtain ⟨r0, r1, r2, r3, r4, r5⟩ := Res.cells HS2.out
    clear hv2 hb2 hf
    go_wp2
    rw [HE.out]
    exact end_int Tryz.results101 rfl rfl HS2.out HV2.out HB2.out (by omega)
  · have hdb : decide (q.den = 1) = false := by simpa using hd
    have HE : Hid ((q.den : Int) = denI q) := Lib.hid (by rw [← HG.out, if_neg hd])
    obtain ⟨y0, y1, y2, y3, y4, y5, -⟩ := Dozen.of HR1.out HR1.out
    obtain ⟨r0, r1, r2, r3, r4, r5⟩ := Res.cells HR2.out
    clear hd HG
    go_wp2
    rw [HE.out]
    exact end_int Tryz.results101 rfl rfl HR2.out (H2.out.far HB1.out) HB1.out (by omega)
end
end Go.Proofs.YtaffbaacilglgaaGreatDoor
namespace Go.Proofs.YtaffbaacilglgaaGreatDoor
open Go.RowKit Nmx

def StrAt (z : Int) : Prop := ∀ (v : Value) (w : World), Env w → IV w v z → Calls Tryz.prog 125 #[v] w fun e w' => e = .returned (.string ⟨(decI z).toArray⟩) ∧ Below w.heap.size w w'
theorem textQ_den1 {q : Rat} (h : q.den = 1) : textQ q = decI q.num := by unfold textQ; rw [if_pos h, List.append_nil]
theorem textQ_den {q : Rat} (h : q.den ≠ 1) : textQ q = decI q.num ++ 47 :: decI q.den := by
  unfold textQ
  rw [if_neg h, decI_nat]

theorem keep6 {a b : World} {g : Nat} {x0 x1 x2 x3 x4 x5 : Value} (hb : Below a.heap.size a b) (hg : g < a.heap.size)
    (h : a.cell? ⟨g, 0, none⟩ = some x0 ∧ a.cell? ⟨g, 1, none⟩ = some x1 ∧ a.cell? ⟨g, 2, none⟩ = some x2 ∧ a.cell? ⟨g, 3, none⟩ = some x3 ∧ a.cell? ⟨g, 4, none⟩ = some x4 ∧ a.cell? ⟨g, 5, none⟩ = some x5) :
    b.cell? ⟨g, 0, none⟩ = some x0 ∧ b.cell? ⟨g, 1, none⟩ = some x1 ∧ b.cell? ⟨g, 2, none⟩ = some x2 ∧ b.cell? ⟨g, 3, none⟩ = some x3 ∧ b.cell? ⟨g, 4, none⟩ = some x4 ∧ b.cell? ⟨g, 5, none⟩ = some x5 := by
  obtain ⟨k0, k1, k2, k3, k4, k5⟩ := h
  have e := hb.block g hg
  refine ⟨?_, ?_, ?_, ?_, ?_, ?_⟩ <;> simp only [World.cell?, e] at * <;> assumption

section
set_option maxRecDepth 100000
set_option maxHeartbeats 4000000
theorem ratString_int (v : Value) (q : Rat) (w : World) (h : RV w v q) (hE : Env w) (hn : StrAt q.num) (hd : q.den = 1) : Calls Tryz.prog 81 #[v] w fun e w' => e = .returned (.string ⟨(textQ q).toArray⟩) ∧ Below w.heap.size w w' := by
  obtain ⟨s1, b1, a1, n1, c1, s2, b2, a2, n2, c2, rfl, h1, h2⟩ := rv_form h
  have hi := fun o => ratIsInt_any (.agg #[.int .i64 s1, .bool b1, .slice a1 n1 c1, .int .i64 s2, .bool b2, .slice a2 n2 c2]) q (w.alloc o) (h.far ((Below.refl _ _).alloc (Nat.le_refl _) o))
  have HB0 := Lib.hid ((Below.refl w.heap.size w).alloc (Nat.le_refl _) (.cells #[.int .i64 s1, .bool b1, .slice a1 n1 c1, .int .i64 s2, .bool b2, .slice a2 n2 c2] 130))
  have H1 := Lib.hid h1
  have H2 := Lib.hid h2
  have HE := Lib.hid hE
  have HN := Lib.hid hn
  clear h hE hn h1 h2
  go_enter Tryz.func81, Tryz.ntmps81
  go_wp2_with fail
  refine (hi _).mono ?_
  rintro e w1 ⟨rfl, hb1⟩
  have HR1 := Lib.hid ((hb1.block w.heap.size (by simp)).trans (heap_alloc_new w (.cells #[.int .i64 s1, .bool b1, .slice a1 n1 c1, .int .i64 s2, .bool b2, .slice a2 n2 c2] 130)))
  have HB1 := Lib.hid (HB0.out.trans (hb1.mono (by simp)))
  obtain ⟨y0, y1, y2, y3, y4, y5, -⟩ := Dozen.of HR1.out HR1.out
  clear hb1 hi HB0
  have hdb : decide (q.den = 1) = true := by simpa using hd
  have HT := Lib.hid (textQ_den1 hd)
  clear hd H2
  have hs := HN.out (.agg #[.int .i64 s1, .bool b1, .slice a1 n1 c1]) w1 (HE.out.far HB1.out) (H1.out.far HB1.out)
  go_wp2_with fail
  refine hs.mono ?_
  rintro e w2 ⟨rfl, hb2⟩
  have HB2 := Lib.hid (HB1.out.trans (hb2.mono HB1.out.size))
  clear hb2 hs
  go_wp2
  go_ret
  exact ⟨by rw [HT.out]; rfl, HB2.out⟩
end
end Go.Proofs.YtaffbaacilglgaaGreatDoor

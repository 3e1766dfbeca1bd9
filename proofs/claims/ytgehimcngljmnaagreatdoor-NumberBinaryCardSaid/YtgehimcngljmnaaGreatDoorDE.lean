/- number.integers, divide, Quo, Rem, Gcd, Lcm at texts that are no integers. -/
import Derived.Test.YtgehimcngljmnaaGreatDoorCR
namespace Go.Proofs.YtgehimcngljmnaaGreatDoor
open Go.RowKit Nmx

def IntsNo (w : World) (e : Ending) (w' : World) : Prop := ∃ v1 v2, ∃ za zb : Int, e = .returned (.tuple #[v1, v2, .bool false]) ∧ IV w' v1 za ∧ IV w' v2 zb ∧ Below w.heap.size w w'
section
set_option maxRecDepth 100000
set_option maxHeartbeats 4000000
theorem integers_na (s t : ByteArray) (w : World) (hs : s.size ≤ 1000000) (ht : t.size ≤ 1000000) (h : Env w) (hno : ((ratF s.data.toList).isSome && (ratF t.data.toList).isSome) = false) (hg : GcdAt s.data.toList) (hg' : GcdAt t.data.toList) :
    Calls Tryz.prog 96 #[.string s, .string t] w (IntsNo w) := by
  have HB00 := Lib.hid (below2 w (.cells #[.int .i64 0, .bool false, .slice none 0 0] 58) (.cells #[.int .i64 0, .bool false, .slice none 0 0] 58))
  have hpa := pair_any s t _ hs ht (h.far HB00.out) hg hg'
  unfold PairPost at hpa
  rw [hno] at hpa
  generalize (ratF s.data.toList).getD 0 = p at hpa
  generalize (ratF t.data.toList).getD 0 = q at hpa
  have HN1 : Hid ((w.alloc (.cells #[.int .i64 0, .bool false, .slice none 0 0] 58)).alloc (.cells #[.int .i64 0, .bool false, .slice none 0 0] 58) |>.heap[w.heap.size]? = some (.cells #[.int .i64 0, .bool false, .slice none 0 0] 58 (0, 0))) := Lib.hid ((Below.heap_alloc _ _ _ (by simp)).trans (heap_alloc_new w _))
  have HN2 := Lib.hid (new_second w (.cells #[.int .i64 0, .bool false, .slice none 0 0] 58) (.cells #[.int .i64 0, .bool false, .slice none 0 0] 58))
  clear h hg hg' hno hs ht
  go_enter Tryz.func96, Tryz.ntmps96
  go_wp2_with fail
  refine hpa.mono ?_
  rintro e w1 ⟨v1, v2, rfl, hv1, hv2, hb1⟩
  have hnx := fun W (hW : Below w1.heap.size w1 W) => ratNum_any v1 p W (RV.far hv1 hW)
  have hny := fun W (hW : Below w1.heap.size w1 W) => ratNum_any v2 q W (RV.far hv2 hW)
  obtain ⟨s1, b1, a1, n1, c1, s2, b2, a2, n2, c2, rfl, -, -⟩ := rv_form hv1
  obtain ⟨s3, b3, a3, n3, c3, s4, b4, a4, n4, c4, rfl, -, -⟩ := rv_form hv2
  have hsz := hb1.size
  have HBX := Lib.hid (below2 w1 (.cells #[.int .i64 s1, .bool b1, .slice a1 n1 c1, .int .i64 s2, .bool b2, .slice a2 n2 c2] 63) (.cells #[.int .i64 s3, .bool b3, .slice a3 n3 c3, .int .i64 s4, .bool b4, .slice a4 n4 c4] 63))
  have HI0 : Hid (IntsS w ((w1.alloc (.cells #[.int .i64 s1, .bool b1, .slice a1 n1 c1, .int .i64 s2, .bool b2, .slice a2 n2 c2] 63)).alloc (.cells #[.int .i64 s3, .bool b3, .slice a3 n3 c3, .int .i64 s4, .bool b4, .slice a4 n4 c4] 63)) w1.heap.size (.int .i64 s1) (.bool b1) (.slice a1 n1 c1) (.int .i64 s2) (.bool b2) (.slice a2 n2 c2) (.int .i64 s3) (.bool b3) (.slice a3 n3 c3) (.int .i64 s4) (.bool b4) (.slice a4 n4 c4)) := Lib.hid
    ⟨(Below.heap_alloc _ _ _ (by simp)).trans (heap_alloc_new w1 _), new_second w1 _ _, (HBX.out.block _ (by simp at hsz; omega)).trans ((hb1.block _ (by simp; omega)).trans HN1.out), (HBX.out.block _ (by simp at hsz; omega)).trans ((hb1.block _ (by simp)).trans HN2.out), (HB00.out.trans (hb1.mono (by simp; omega))).trans (HBX.out.mono (by simp at hsz; omega))⟩
  clear hv1 hv2 hb1 hpa HN1 HN2
  have hlt : w.heap.size + 1 < w1.heap.size := by simp at hsz; omega
  have HBY := HBX
  generalize hG : w1.heap.size = G at *
  go_wp2
  try rw [hG]
  generalize (w1.alloc (.cells #[.int .i64 s1, .bool b1, .slice a1 n1 c1, .int .i64 s2, .bool b2, .slice a2 n2 c2] 63)).alloc (.cells #[.int .i64 s3, .bool b3, .slice a3 n3 c3, .int .i64 s4, .bool b4, .slice a4 n4 c4] 63) = wx at *
  have B0 : Hid (Below G w1 wx.drew) := Lib.hid HBX.out.drew
  have HSZ := Lib.hid hG
  obtain ⟨k0, k1, k2, k3, k4, k5, l0, l1, l2, l3, l4, l5⟩ := HI0.out.cells
  go_region_with ((first
    | (go_at_call 76; first
      | (with_reducible refine (hnx _ B0.out).mono ?_
         rintro e u1 ⟨v1, rfl, hv1, hb1⟩
         have T1 := Lib.hid (HI0.out.drew.far hb1)
         have B1 := Lib.hid (B0.out.trans (hb1.mono (by have h := B0.out.size; omega)))
         have V1 := Lib.hid hv1
         clear k0 k1 k2 k3 k4 k5 l0 l1 l2 l3 l4 l5
         obtain ⟨k0, k1, k2, k3, k4, k5, l0, l1, l2, l3, l4, l5⟩ := T1.out.cells
         obtain ⟨e1a, e1b, e1c, e1d, e1f, rfl⟩ := iv_form hv1)
      | (with_reducible refine (hny _ B1.out).mono ?_
         rintro e u2 ⟨v2, rfl, hv2, hb2⟩
         have T2 := Lib.hid (T1.out.far hb2)
         have B2 := Lib.hid (B1.out.trans (hb2.mono (by have h := B1.out.size; omega)))
         have V2 := Lib.hid hv2
         have V1a := Lib.hid (V1.out.far hb2)
         clear k0 k1 k2 k3 k4 k5 l0 l1 l2 l3 l4 l5
         obtain ⟨k0, k1, k2, k3, k4, k5, l0, l1, l2, l3, l4, l5⟩ := T2.out.cells
         obtain ⟨e2a, e2b, e2c, e2d, e2f, rfl⟩ := iv_form hv2
         obtain ⟨r0, r1, r2, f0, f1, f2⟩ := Res.cells T2.out.r1
         obtain ⟨p0, p1, p2, g0, g1, g2⟩ := Res.cells T2.out.r2))))
  all_goals (go_wp2_with fail; exact end_iib Tryz.results96 rfl rfl rfl rfl T2.out.r1 T2.out.r2 (by omega) V1a.out V2.out T2.out.bel (Nat.le_refl _) (by omega) (fun w3 v v' h1 h2 h3 => ⟨v, v', _, _, rfl, h1, h2, h3⟩))
theorem integers_nb (s t : ByteArray) (p q : Rat) (w : World) (hs : s.size ≤ 1000000) (ht : t.size ≤ 1000000) (h : Env w) (hp : ratF s.data.toList = some p) (hq : ratF t.data.toList = some q) (h1 : p.den ≠ 1) (hg : GcdAt s.data.toList) (hg' : GcdAt t.data.toList) :
    Calls Tryz.prog 96 #[.string s, .string t] w (IntsNo w) := by
  have HB00 := Lib.hid (below2 w (.cells #[.int .i64 0, .bool false, .slice none 0 0] 58) (.cells #[.int .i64 0, .bool false, .slice none 0 0] 58))
  have hpa := pair_any s t _ hs ht (h.far HB00.out) hg hg'
  rw [hp, hq] at hpa
  have HN1 : Hid ((w.alloc (.cells #[.int .i64 0, .bool false, .slice none 0 0] 58)).alloc (.cells #[.int .i64 0, .bool false, .slice none 0 0] 58) |>.heap[w.heap.size]? = some (.cells #[.int .i64 0, .bool false, .slice none 0 0] 58 (0, 0))) := Lib.hid ((Below.heap_alloc _ _ _ (by simp)).trans (heap_alloc_new w _))
  have HN2 := Lib.hid (new_second w (.cells #[.int .i64 0, .bool false, .slice none 0 0] 58) (.cells #[.int .i64 0, .bool false, .slice none 0 0] 58))
  clear h hg hg' hp hq hs ht
  go_enter Tryz.func96, Tryz.ntmps96
  go_wp2_with fail
  refine hpa.mono ?_
  rintro e w1 ⟨v1, v2, rfl, hv1, hv2, hb1⟩
  have hnx := fun W (hW : Below w1.heap.size w1 W) => ratNum_any v1 p W (RV.far hv1 hW)
  have hny := fun W (hW : Below w1.heap.size w1 W) => ratNum_any v2 q W (RV.far hv2 hW)
  have hix := fun W (hW : Below w1.heap.size w1 W) => ratIsInt_any v1 p W (RV.far hv1 hW)
  simp only [decide_eq_false h1] at hix
  obtain ⟨s1, b1, a1, n1, c1, s2, b2, a2, n2, c2, rfl, -, -⟩ := rv_form hv1
  obtain ⟨s3, b3, a3, n3, c3, s4, b4, a4, n4, c4, rfl, -, -⟩ := rv_form hv2
  have hsz := hb1.size
  have HBX := Lib.hid (below2 w1 (.cells #[.int .i64 s1, .bool b1, .slice a1 n1 c1, .int .i64 s2, .bool b2, .slice a2 n2 c2] 63) (.cells #[.int .i64 s3, .bool b3, .slice a3 n3 c3, .int .i64 s4, .bool b4, .slice a4 n4 c4] 63))
  have HI0 : Hid (IntsS w ((w1.alloc (.cells #[.int .i64 s1, .bool b1, .slice a1 n1 c1, .int .i64 s2, .bool b2, .slice a2 n2 c2] 63)).alloc (.cells #[.int .i64 s3, .bool b3, .slice a3 n3 c3, .int .i64 s4, .bool b4, .slice a4 n4 c4] 63)) w1.heap.size (.int .i64 s1) (.bool b1) (.slice a1 n1 c1) (.int .i64 s2) (.bool b2) (.slice a2 n2 c2) (.int .i64 s3) (.bool b3) (.slice a3 n3 c3) (.int .i64 s4) (.bool b4) (.slice a4 n4 c4)) := Lib.hid
    ⟨(Below.heap_alloc _ _ _ (by simp)).trans (heap_alloc_new w1 _), new_second w1 _ _, (HBX.out.block _ (by simp at hsz; omega)).trans ((hb1.block _ (by simp; omega)).trans HN1.out), (HBX.out.block _ (by simp at hsz; omega)).trans ((hb1.block _ (by simp)).trans HN2.out), (HB00.out.trans (hb1.mono (by simp; omega))).trans (HBX.out.mono (by simp at hsz; omega))⟩
  clear hv1 hv2 hb1 hpa HN1 HN2 h1
  have hlt : w.heap.size + 1 < w1.heap.size := by simp at hsz; omega
  have HBY := HBX
  generalize hG : w1.heap.size = G at *
  go_wp2
  try rw [hG]
  generalize (w1.alloc (.cells #[.int .i64 s1, .bool b1, .slice a1 n1 c1, .int .i64 s2, .bool b2, .slice a2 n2 c2] 63)).alloc (.cells #[.int .i64 s3, .bool b3, .slice a3 n3 c3, .int .i64 s4, .bool b4, .slice a4 n4 c4] 63) = wx at *
  have B0 : Hid (Below G w1 wx.drew) := Lib.hid HBX.out.drew
  have HSZ := Lib.hid hG
  obtain ⟨k0, k1, k2, k3, k4, k5, l0, l1, l2, l3, l4, l5⟩ := HI0.out.cells
  go_region_with ((first
    | (go_at_call 76; first
      | (with_reducible refine (hnx _ B0.out).mono ?_
         rintro e u1 ⟨v1, rfl, hv1, hb1⟩
         have T1 := Lib.hid (HI0.out.drew.far hb1)
         have B1 := Lib.hid (B0.out.trans (hb1.mono (by have h := B0.out.size; omega)))
         have V1 := Lib.hid hv1
         clear k0 k1 k2 k3 k4 k5 l0 l1 l2 l3 l4 l5
         obtain ⟨k0, k1, k2, k3, k4, k5, l0, l1, l2, l3, l4, l5⟩ := T1.out.cells
         obtain ⟨e1a, e1b, e1c, e1d, e1f, rfl⟩ := iv_form hv1)
      | (with_reducible refine (hny _ B1.out).mono ?_
         rintro e u2 ⟨v2, rfl, hv2, hb2⟩
         have T2 := Lib.hid (T1.out.far hb2)
         have B2 := Lib.hid (B1.out.trans (hb2.mono (by have h := B1.out.size; omega)))
         have V2 := Lib.hid hv2
         have V1a := Lib.hid (V1.out.far hb2)
         clear k0 k1 k2 k3 k4 k5 l0 l1 l2 l3 l4 l5
         obtain ⟨k0, k1, k2, k3, k4, k5, l0, l1, l2, l3, l4, l5⟩ := T2.out.cells
         obtain ⟨e2a, e2b, e2c, e2d, e2f, rfl⟩ := iv_form hv2))
    | (go_at_call 75
       with_reducible refine (hix _ B2.out).mono ?_
       rintro e u3 ⟨rfl, hb3⟩
       have T3 := Lib.hid (T2.out.far hb3)
       have B3 := Lib.hid (B2.out.trans (hb3.mono (by have h := B2.out.size; omega)))
       have V1b := Lib.hid (V1a.out.far hb3)
       have V2b := Lib.hid (V2.out.far hb3)
       clear k0 k1 k2 k3 k4 k5 l0 l1 l2 l3 l4 l5
       obtain ⟨k0, k1, k2, k3, k4, k5, l0, l1, l2, l3, l4, l5⟩ := T3.out.cells
       obtain ⟨r0, r1, r2, f0, f1, f2⟩ := Res.cells T3.out.r1
       obtain ⟨p0, p1, p2, g0, g1, g2⟩ := Res.cells T3.out.r2)))
  all_goals (go_wp2_with fail; exact end_iib Tryz.results96 rfl rfl rfl rfl T3.out.r1 T3.out.r2 (by omega) V1b.out V2b.out T3.out.bel (Nat.le_refl _) (by omega) (fun w3 v v' h1 h2 h3 => ⟨v, v', _, _, rfl, h1, h2, h3⟩))
theorem integers_nc (s t : ByteArray) (p q : Rat) (w : World) (hs : s.size ≤ 1000000) (ht : t.size ≤ 1000000) (h : Env w) (hp : ratF s.data.toList = some p) (hq : ratF t.data.toList = some q) (h1 : p.den = 1) (h2 : q.den ≠ 1) (hg : GcdAt s.data.toList) (hg' : GcdAt t.data.toList) :
    Calls Tryz.prog 96 #[.string s, .string t] w (IntsNo w) := by
  have HB00 := Lib.hid (below2 w (.cells #[.int .i64 0, .bool false, .slice none 0 0] 58) (.cells #[.int .i64 0, .bool false, .slice none 0 0] 58))
  have hpa := pair_any s t _ hs ht (h.far HB00.out) hg hg'
  rw [hp, hq] at hpa
  have HN1 : Hid ((w.alloc (.cells #[.int .i64 0, .bool false, .slice none 0 0] 58)).alloc (.cells #[.int .i64 0, .bool false, .slice none 0 0] 58) |>.heap[w.heap.size]? = some (.cells #[.int .i64 0, .bool false, .slice none 0 0] 58 (0, 0))) := Lib.hid ((Below.heap_alloc _ _ _ (by simp)).trans (heap_alloc_new w _))
  have HN2 := Lib.hid (new_second w (.cells #[.int .i64 0, .bool false, .slice none 0 0] 58) (.cells #[.int .i64 0, .bool false, .slice none 0 0] 58))
  clear h hg hg' hp hq hs ht
  go_enter Tryz.func96, Tryz.ntmps96
  go_wp2_with fail
  refine hpa.mono ?_
  rintro e w1 ⟨v1, v2, rfl, hv1, hv2, hb1⟩
  have hnx := fun W (hW : Below w1.heap.size w1 W) => ratNum_any v1 p W (RV.far hv1 hW)
  have hny := fun W (hW : Below w1.heap.size w1 W) => ratNum_any v2 q W (RV.far hv2 hW)
  have hix := fun W (hW : Below w1.heap.size w1 W) => ratIsInt_any v1 p W (RV.far hv1 hW)
  have hiy := fun W (hW : Below w1.heap.size w1 W) => ratIsInt_any v2 q W (RV.far hv2 hW)
  simp only [decide_eq_true h1] at hix
  simp only [decide_eq_false h2] at hiy
  obtain ⟨s1, b1, a1, n1, c1, s2, b2, a2, n2, c2, rfl, -, -⟩ := rv_form hv1
  obtain ⟨s3, b3, a3, n3, c3, s4, b4, a4, n4, c4, rfl, -, -⟩ := rv_form hv2
  have hsz := hb1.size
  have HBX := Lib.hid (below2 w1 (.cells #[.int .i64 s1, .bool b1, .slice a1 n1 c1, .int .i64 s2, .bool b2, .slice a2 n2 c2] 63) (.cells #[.int .i64 s3, .bool b3, .slice a3 n3 c3, .int .i64 s4, .bool b4, .slice a4 n4 c4] 63))
  have HI0 : Hid (IntsS w ((w1.alloc (.cells #[.int .i64 s1, .bool b1, .slice a1 n1 c1, .int .i64 s2, .bool b2, .slice a2 n2 c2] 63)).alloc (.cells #[.int .i64 s3, .bool b3, .slice a3 n3 c3, .int .i64 s4, .bool b4, .slice a4 n4 c4] 63)) w1.heap.size (.int .i64 s1) (.bool b1) (.slice a1 n1 c1) (.int .i64 s2) (.bool b2) (.slice a2 n2 c2) (.int .i64 s3) (.bool b3) (.slice a3 n3 c3) (.int .i64 s4) (.bool b4) (.slice a4 n4 c4)) := Lib.hid
    ⟨(Below.heap_alloc _ _ _ (by simp)).trans (heap_alloc_new w1 _), new_second w1 _ _, (HBX.out.block _ (by simp at hsz; omega)).trans ((hb1.block _ (by simp; omega)).trans HN1.out), (HBX.out.block _ (by simp at hsz; omega)).trans ((hb1.block _ (by simp)).trans HN2.out), (HB00.out.trans (hb1.mono (by simp; omega))).trans (HBX.out.mono (by simp at hsz; omega))⟩
  clear hv1 hv2 hb1 hpa HN1 HN2 h1 h2
  have hlt : w.heap.size + 1 < w1.heap.size := by simp at hsz; omega
  have HBY := HBX
  generalize hG : w1.heap.size = G at *
  go_wp2
  try rw [hG]
  generalize (w1.alloc (.cells #[.int .i64 s1, .bool b1, .slice a1 n1 c1, .int .i64 s2, .bool b2, .slice a2 n2 c2] 63)).alloc (.cells #[.int .i64 s3, .bool b3, .slice a3 n3 c3, .int .i64 s4, .bool b4, .slice a4 n4 c4] 63) = wx at *
  have K0 := Lib.hid HI0.out.drew.cells
  have B0 : Hid (Below G w1 wx.drew) := Lib.hid HBX.out.drew
  have HSZ := Lib.hid hG
  go_region_held3 (fun w' => w'.cell? ⟨G, 0, none⟩ = some (.int .i64 s1) ∧ w'.cell? ⟨G, 1, none⟩ = some (.bool b1) ∧ w'.cell? ⟨G, 2, none⟩ = some (.slice a1 n1 c1) ∧ w'.cell? ⟨G, 3, none⟩ = some (.int .i64 s2) ∧ w'.cell? ⟨G, 4, none⟩ = some (.bool b2) ∧ w'.cell? ⟨G, 5, none⟩ = some (.slice a2 n2 c2) ∧ w'.cell? ⟨G + 1, 0, none⟩ = some (.int .i64 s3) ∧ w'.cell? ⟨G + 1, 1, none⟩ = some (.bool b3) ∧ w'.cell? ⟨G + 1, 2, none⟩ = some (.slice a3 n3 c3) ∧ w'.cell? ⟨G + 1, 3, none⟩ = some (.int .i64 s4) ∧ w'.cell? ⟨G + 1, 4, none⟩ = some (.bool b4) ∧ w'.cell? ⟨G + 1, 5, none⟩ = some (.slice a4 n4 c4))
        (first | with_reducible exact K4.out | with_reducible exact K3.out | with_reducible exact K2.out | with_reducible exact K1.out | with_reducible exact K0.out | (obtain ⟨k0, k1, k2, k3, k4, k5, l0, l1, l2, l3, l4, l5⟩ := K4.out; exact ⟨(cell_set3 (by omega) _ _ _ 0).trans k0, (cell_set3 (by omega) _ _ _ 1).trans k1, (cell_set3 (by omega) _ _ _ 2).trans k2, (cell_set3 (by omega) _ _ _ 3).trans k3, (cell_set3 (by omega) _ _ _ 4).trans k4, (cell_set3 (by omega) _ _ _ 5).trans k5, (cell_set3 (by omega) _ _ _ 0).trans l0, (cell_set3 (by omega) _ _ _ 1).trans l1, (cell_set3 (by omega) _ _ _ 2).trans l2, (cell_set3 (by omega) _ _ _ 3).trans l3, (cell_set3 (by omega) _ _ _ 4).trans l4, (cell_set3 (by omega) _ _ _ 5).trans l5⟩) | (obtain ⟨k0, k1, k2, k3, k4, k5, l0, l1, l2, l3, l4, l5⟩ := K4.out; exact ⟨(cell_set3 (by omega) _ _ _ 0).trans ((cell_set3 (by omega) _ _ _ 0).trans k0), (cell_set3 (by omega) _ _ _ 1).trans ((cell_set3 (by omega) _ _ _ 1).trans k1), (cell_set3 (by omega) _ _ _ 2).trans ((cell_set3 (by omega) _ _ _ 2).trans k2), (cell_set3 (by omega) _ _ _ 3).trans ((cell_set3 (by omega) _ _ _ 3).trans k3), (cell_set3 (by omega) _ _ _ 4).trans ((cell_set3 (by omega) _ _ _ 4).trans k4), (cell_set3 (by omega) _ _ _ 5).trans ((cell_set3 (by omega) _ _ _ 5).trans k5), (cell_set3 (by omega) _ _ _ 0).trans ((cell_set3 (by omega) _ _ _ 0).trans l0), (cell_set3 (by omega) _ _ _ 1).trans ((cell_set3 (by omega) _ _ _ 1).trans l1), (cell_set3 (by omega) _ _ _ 2).trans ((cell_set3 (by omega) _ _ _ 2).trans l2), (cell_set3 (by omega) _ _ _ 3).trans ((cell_set3 (by omega) _ _ _ 3).trans l3), (cell_set3 (by omega) _ _ _ 4).trans ((cell_set3 (by omega) _ _ _ 4).trans l4), (cell_set3 (by omega) _ _ _ 5).trans ((cell_set3 (by omega) _ _ _ 5).trans l5)⟩))
        (first
          | (go_at_call 76
             first
          | (with_reducible refine (hnx _ B0.out).mono ?_
             rintro e u1 ⟨v1, rfl, hv1, hb1⟩
             have T1 := Lib.hid (HI0.out.drew.far hb1)
             have K1 := Lib.hid T1.out.cells
             have B1 := Lib.hid (B0.out.trans (hb1.mono (by have h := B0.out.size; omega)))
             have V1 := Lib.hid hv1
             obtain ⟨e1a, e1b, e1c, e1d, e1f, rfl⟩ := iv_form hv1)
          | (with_reducible refine (hny _ B1.out).mono ?_
             rintro e u2 ⟨v2, rfl, hv2, hb2⟩
             have T2 := Lib.hid (T1.out.far hb2)
             have K2 := Lib.hid T2.out.cells
             have B2 := Lib.hid (B1.out.trans (hb2.mono (by have h := B1.out.size; omega)))
             have V2 := Lib.hid hv2
             have V1a := Lib.hid (V1.out.far hb2)
             obtain ⟨e2a, e2b, e2c, e2d, e2f, rfl⟩ := iv_form hv2))
          | (go_at_call 75
             first
          | (with_reducible refine (hix _ B2.out).mono ?_
             rintro e u3 ⟨rfl, hb3⟩
             have T3 := Lib.hid (T2.out.far hb3)
             have K3 := Lib.hid T3.out.cells
             have B3 := Lib.hid (B2.out.trans (hb3.mono (by have h := B2.out.size; omega)))
             have V1b := Lib.hid (V1a.out.far hb3)
             have V2b := Lib.hid (V2.out.far hb3))
          | (with_reducible refine (hiy _ B3.out).mono ?_
             rintro e u4 ⟨rfl, hb4⟩
             have T4 := Lib.hid (T3.out.far hb4)
             have K4 := Lib.hid T4.out.cells
             have B4 := Lib.hid (B3.out.trans (hb4.mono (by have h := B3.out.size; omega)))
             have V1c := Lib.hid (V1b.out.far hb4)
             have V2c := Lib.hid (V2b.out.far hb4)
             obtain ⟨r0, r1, r2, f0, f1, f2⟩ := Res.cells T4.out.r1
             obtain ⟨p0, p1, p2, g0, g1, g2⟩ := Res.cells T4.out.r2)))
  go_wp2
  exact end_iib Tryz.results96 rfl rfl rfl rfl T4.out.r1 T4.out.r2 (by omega) V1c.out V2c.out T4.out.bel (Nat.le_refl _) (by omega) (fun w3 v v' h1 h2 h3 => ⟨v, v', _, _, rfl, h1, h2, h3⟩)
end
end Go.Proofs.YtgehimcngljmnaaGreatDoor

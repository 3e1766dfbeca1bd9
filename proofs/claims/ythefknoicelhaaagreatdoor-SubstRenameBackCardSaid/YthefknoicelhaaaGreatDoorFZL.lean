/- The sanity check of layer 5: Apply; the check itself. -/
import Derived.Test.YthefknoicelhaaaGreatDoorFZK
import Derived.Test.YthefknoicelhaaaGreatDoorFWH
import Derived.Test.YthefknoicelhaaaGreatDoorFYA
namespace Go.Proofs.YthefknoicelhaaaGreatDoor.Se
open Go.RowKit Nmx
open Go.MapKept

theorem fr_x : freshF (⟨#[120]⟩ : ByteArray).toList [[120], [120, 33, 49]] = [120, 33, 50] := by
  rw [show (⟨#[120]⟩ : ByteArray).toList = [120] by decide +kernel]
  simp [freshF, freshK, candF, tailF, decN_small, dg]
section
set_option maxRecDepth 100000
set_option maxHeartbeats 4000000
theorem applyLaw (gt ct B gy gx cy cx : Nat) (w : World) (hN : NodesAt w gt (aT 120 121)) (hs : Sub2 w B (.slice (some ⟨gy, 0, none⟩) 1 cy) (.slice (some ⟨gx, 0, none⟩) 1 cx)) (hy : NodesAt w gy [vT 121]) (hx : NodesAt w gx [vT 120]) (hgt : gt < w.heap.size) (hgy : gy < w.heap.size) (hgx : gx < w.heap.size) (hEn : Env w) :
    Calls Tryz.prog 22 #[.slice (some ⟨gt, 0, none⟩) 3 ct, .slice (some ⟨B, 0, none⟩) 2 2] w fun e w' => ∃ g c, e = .returned (.tuple #[.slice (some ⟨g, 0, none⟩) 3 c, .int .i64 0]) ∧ NodesAt w' g (aT 121 120) ∧ g < w'.heap.size ∧ Below w.heap.size w w' := by
  have h1 := valid_of (chk_vars gt ct (aT 120 121) w (by decide) hgt hN (by decide +kernel) hEn (by decide))
  rw [vd_xy, show (aT 120 121).length = 3 by rfl] at h1
  have HN := Lib.hid hN
  have HS := Lib.hid hs
  have HY := Lib.hid hy
  have HX := Lib.hid hx
  have HEN := Lib.hid hEn
  clear hN hs hy hx hEn
  go_enter Tryz.func22, Tryz.ntmps22
  go_wp2_with fail
  refine h1.mono ?_
  rintro e w2 ⟨rfl, hb2⟩
  have HB2 := Lib.hid hb2
  have h2 := validSubs_any B gy gx cy cx w2 (HS.out.far hb2) (HY.out.below hb2 hgy) (HX.out.below hb2 hgx) (Nat.lt_of_lt_of_le hgy hb2.size) (Nat.lt_of_lt_of_le hgx hb2.size) (HEN.out.far hb2)
  clear h1 hb2
  go_wp2_with fail
  refine h2.mono ?_
  rintro e w3 ⟨rfl, hb3⟩
  have HB3 := Lib.hid (HB2.out.trans (hb3.mono HB2.out.size))
  have h3 := table_any B gy gx cy cx w3 (HS.out.far HB3.out)
  clear h2 hb3
  go_wp2_with fail
  refine h3.mono ?_
  rintro e w4 ⟨rfl, hm, hb4⟩
  have HB4 := Lib.hid (HB3.out.trans (hb4.mono HB3.out.size))
  have h4 := applyXY gt ct gy gx cy cx w3.heap.size w4 (HN.out.below HB4.out hgt) (HY.out.below HB4.out hgy) (HX.out.below HB4.out hgx) hm (Nat.lt_of_lt_of_le hgt HB4.out.size) (Nat.lt_of_lt_of_le hgy HB4.out.size) (Nat.lt_of_lt_of_le hgx HB4.out.size)
  clear h3 hm hb4
  go_wp2_with fail
  refine h4.mono ?_
  rintro e w5 ⟨g, c, rfl, hn, hg, hb5⟩
  have HB5 := Lib.hid (HB4.out.trans (hb5.mono HB4.out.size))
  clear h4 hb5
  go_wp2
  go_ret2
  exact ⟨g, c, rfl, hn, hg, HB5.out⟩
/-- Join of two variables under '+' -/
theorem joinXY (a b : UInt8) (ga gb : Nat) (w : World) (ha : NodesAt w ga [vT a]) (hb : NodesAt w gb [vT b]) (hga : ga < w.heap.size) (hgb : gb < w.heap.size) (gk : Nat) (hk : w.heap[gk]? = some (.cells #[.slice (some ⟨ga, 0, none⟩) 1 1, .slice (some ⟨gb, 0, none⟩) 1 1] 26 (0, 0))) :
    Calls Tryz.prog 23 #[.agg #[.int .i64 14, .int .i64 0, .string ⟨#[]⟩, .string ⟨#[]⟩, .int .i64 0], .slice (some ⟨gk, 0, none⟩) 2 2] w fun e w' => ∃ g c, e = .returned (.slice (some ⟨g, 0, none⟩) 3 c) ∧ NodesAt w' g (aT a b) ∧ g < w'.heap.size ∧ Below w.heap.size w w' := by
  have h := join_any ⟨14, 0, ⟨#[]⟩, ⟨#[]⟩, 0⟩ (some ⟨gk, 0, none⟩) gk 2 [[vT a], [vT b]] w ⟨fun _ => rfl, lt_of_heap hk, fun j t ht => by
    match j, ht with
    | 0, ht => obtain rfl := Option.some.inj ht; exact ⟨ga, 1, heap_cell hk 0, ha, hga⟩
    | 1, ht => obtain rfl := Option.some.inj ht; exact ⟨gb, 1, heap_cell hk 1, hb, hgb⟩⟩ (show (2 : Nat) ≤ 1000000 by decide) (show (2 : Nat) ≤ 1000000 by decide)
  refine Calls.mono h ?_
  rintro e w' ⟨g, c, he, hn, hg, -, hb⟩
  exact ⟨g, _, he, hn, hg, hb⟩
theorem strs2 {w : World} {B : Nat} (h : w.heap[B]? = some (.cells #[.string ⟨#[120]⟩, .string ⟨#[120, 33, 49]⟩] 9 (0, 0))) : Strs w (some ⟨B, 0, none⟩) B [[120], [120, 33, 49]] :=
  ⟨fun _ => rfl, fun k x hx => by
    match k, hx with
    | 0, hx => obtain rfl := Option.some.inj hx; exact heap_cell h 0
    | 1, hx => obtain rfl := Option.some.inj hx; exact heap_cell h 1, lt_of_heap h⟩
theorem awake5 (w : World) (hEn : Env w) : Calls Tryz.prog 7 #[] w fun e w' => e = .returned (.bool true) ∧ Below w.heap.size w w' := by
  have HEN := Lib.hid hEn
  have h1 := lawVar_any ⟨#[120]⟩ 2 w
  clear hEn
  go_enter Tryz.func7, Tryz.ntmps7
  go_wp2_with fail
  refine h1.mono ?_
  rintro e w1 ⟨rfl, hx1, hb1⟩
  have h2 := lawVar_any ⟨#[121]⟩ 2 w1
  have HX1 := Lib.hid (one_nodes (x := vT 120) hx1)
  have HB1 := Lib.hid hb1
  have HG1 := Lib.hid (lt_of_heap hx1)
  generalize hgx : w.heap.size = gx at *
  have HGX := Lib.hid hgx
  clear h1 hx1 hb1 hgx
  go_wp2_with fail
  refine h2.mono ?_
  rintro e w2 ⟨rfl, hy2, hb2⟩
  have HY2 := Lib.hid (one_nodes (x := vT 121) hy2)
  have HX2 := Lib.hid (HX1.out.below hb2 HG1.out)
  have HB2 := Lib.hid (HB1.out.trans (hb2.mono (Nat.le_of_lt HG1.out)))
  have HGY := Lib.hid (lt_of_heap hy2)
  have HGX2 := Lib.hid (Nat.lt_of_lt_of_le HG1.out hb2.size)
  have HGL := Lib.hid (Nat.le_of_lt HG1.out)
  generalize w1.heap.size = gy at *
  clear h2 hy2 hb2 HX1 HG1 HB1
  have hal := alloc_far' w2 (.cells #[.slice (some ⟨gx, 0, none⟩) 1 1, .slice (some ⟨gy, 0, none⟩) 1 1] 26)
  have hkb := heap_alloc_new w2 (.cells #[.slice (some ⟨gx, 0, none⟩) 1 1, .slice (some ⟨gy, 0, none⟩) 1 1] 26)
  have h3 := joinXY 120 121 gx gy _ (HX2.out.below hal HGX2.out) (HY2.out.below hal HGY.out) (Nat.lt_of_lt_of_le HGX2.out hal.size) (Nat.lt_of_lt_of_le HGY.out hal.size) w2.heap.size hkb
  have HAL := Lib.hid hal
  clear hal hkb
  go_wp2_with fail
  refine h3.mono ?_
  rintro e w4 ⟨gt, ct, rfl, hn4, hgt, hb4⟩
  have hb4' := HAL.out.trans (hb4.mono HAL.out.size)
  have HX4 := Lib.hid (HX2.out.below hb4' HGX2.out)
  have HY4 := Lib.hid (HY2.out.below hb4' HGY.out)
  have HN4 := Lib.hid hn4
  have HGT := Lib.hid hgt
  have HB4 := Lib.hid (HB2.out.trans (hb4'.mono (by have := HGX2.out; omega)))
  have HGX4 := Lib.hid (Nat.lt_of_lt_of_le HGX2.out hb4'.size)
  have HGY4 := Lib.hid (Nat.lt_of_lt_of_le HGY.out hb4'.size)
  clear h3 hn4 hgt hb4 hb4' HX2 HY2 HAL HGX2 HGY HB2
  have hal := alloc_far' w4 (.cells #[.string ⟨#[120]⟩, .slice (some ⟨gy, 0, none⟩) 1 1, .string ⟨#[121]⟩, .slice (some ⟨gx, 0, none⟩) 1 1] 53)
  have hsb := heap_alloc_new w4 (.cells #[.string ⟨#[120]⟩, .slice (some ⟨gy, 0, none⟩) 1 1, .string ⟨#[121]⟩, .slice (some ⟨gx, 0, none⟩) 1 1] 53)
  have h5 := applyLaw gt ct w4.heap.size gy gx 1 1 _ (HN4.out.below hal HGT.out) ⟨heap_cell hsb 0, heap_cell hsb 1, heap_cell hsb 2, heap_cell hsb 3, lt_of_heap hsb⟩ (HY4.out.below hal HGY4.out) (HX4.out.below hal HGX4.out) (Nat.lt_of_lt_of_le HGT.out hal.size) (Nat.lt_of_lt_of_le HGY4.out hal.size) (Nat.lt_of_lt_of_le HGX4.out hal.size) (HEN.out.far (by rw [HGX.out]; exact HB4.out.trans (hal.mono (Nat.le_of_lt HGX4.out))))
  have HAL := Lib.hid hal
  clear hal hsb
  go_wp2_with fail
  refine h5.mono ?_
  rintro e w6 ⟨g6, c6, rfl, hn6, hg6, hb6⟩
  have hb6' := HAL.out.trans (hb6.mono HAL.out.size)
  have HX6 := Lib.hid (HX4.out.below hb6' HGX4.out)
  have HY6 := Lib.hid (HY4.out.below hb6' HGY4.out)
  have HN6 := Lib.hid hn6
  have HG6 := Lib.hid hg6
  have HB6 := Lib.hid (HB4.out.trans (hb6'.mono (Nat.le_of_lt HGX4.out)))
  have HGX6 := Lib.hid (Nat.lt_of_lt_of_le HGX4.out hb6'.size)
  have HGY6 := Lib.hid (Nat.lt_of_lt_of_le HGY4.out hb6'.size)
  clear h5 hn6 hg6 hb6 hb6' HX4 HY4 HAL HGX4 HGY4 HB4 HN4 HGT
  have hal := alloc_far' w6 (.cells #[.slice (some ⟨gy, 0, none⟩) 1 1, .slice (some ⟨gx, 0, none⟩) 1 1] 26)
  have hkb := heap_alloc_new w6 (.cells #[.slice (some ⟨gy, 0, none⟩) 1 1, .slice (some ⟨gx, 0, none⟩) 1 1] 26)
  have h7 := joinXY 121 120 gy gx _ (HY6.out.below hal HGY6.out) (HX6.out.below hal HGX6.out) (Nat.lt_of_lt_of_le HGY6.out hal.size) (Nat.lt_of_lt_of_le HGX6.out hal.size) w6.heap.size hkb
  have HAL := Lib.hid hal
  clear hal hkb
  go_wp2_with fail
  refine h7.mono ?_
  rintro e w8 ⟨g8, c8, rfl, hn8, hg8, hb8⟩
  have hb8' := HAL.out.trans (hb8.mono HAL.out.size)
  have h9 := refEqual_any (some ⟨g6, 0, none⟩) (some ⟨g8, 0, none⟩) c6 c8 (aT 121 120) (aT 121 120) w8 ((HN6.out.below hb8' HG6.out).o (Nat.lt_of_lt_of_le HG6.out hb8'.size)) (hn8.o hg8) (by decide) (by decide)
  rw [show (tsCmp (aT 121 120) (aT 121 120) == 0) = true by decide +kernel, show (aT 121 120).length = 3 by rfl] at h9
  have HB8 := Lib.hid (HB6.out.trans (hb8'.mono (Nat.le_of_lt HGX6.out)))
  have HSZ8 := Lib.hid (Nat.lt_of_lt_of_le HGX6.out hb8'.size)
  clear h7 hn8 hg8 hb8 hb8' HX6 HY6 HAL HGX6 HGY6 HB6 HN6 HG6
  go_wp2_with fail
  refine h9.mono ?_
  rintro e w9 ⟨rfl, hb9⟩
  have HB9 := Lib.hid (HB8.out.trans (hb9.mono (Nat.le_of_lt HSZ8.out)))
  have HSZ9 := Lib.hid (Nat.lt_of_lt_of_le HSZ8.out hb9.size)
  clear h9 hb9 HB8 HSZ8
  have hal := alloc_far' w9 (.cells #[.string ⟨#[120]⟩, .string ⟨#[120, 33, 49]⟩] 9)
  have hsb := heap_alloc_new w9 (.cells #[.string ⟨#[120]⟩, .string ⟨#[120, 33, 49]⟩] 9)
  have h10 := freshP_any ⟨#[120]⟩ [[120], [120, 33, 49]] (some ⟨w9.heap.size, 0, none⟩) w9.heap.size 2 _ (by decide) (strs2 hsb) (HEN.out.far (by rw [HGX.out]; exact HB9.out.trans (hal.mono (Nat.le_of_lt HSZ9.out)))) nm_x
  rw [fr_x] at h10
  have HAL := Lib.hid (HB9.out.trans (hal.mono (Nat.le_of_lt HSZ9.out)))
  have HSL := Lib.hid hal.size
  clear hal hsb
  go_wp2_with fail
  refine h10.mono ?_
  rintro e w11 ⟨rfl, hb11⟩
  have HB11 := Lib.hid (HAL.out.trans (hb11.mono (by have := HSL.out; have := HSZ9.out; omega)))
  clear h10 hb11
  go_wp2
  go_ret
  exact ⟨rfl, by rw [HGX.out]; exact HB11.out⟩
end
end Go.Proofs.YthefknoicelhaaaGreatDoor.Se

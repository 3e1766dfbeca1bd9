/- The sanity check of layer 5: valid, table. -/
import Derived.Test.YthefknoicelhaaaGreatDoorFZI
import Derived.Test.YthefknoicelhaaaGreatDoorFVL
import Derived.Test.YthefknoicelhaaaGreatDoorFTB
namespace Go.Proofs.YthefknoicelhaaaGreatDoor.Se
open Go.RowKit Nmx
open Go.MapKept

/-- the term of a variable of sort Int with a name of one letter -/
def vT (c : UInt8) : Nd := ⟨4, 2, ⟨#[c]⟩, ⟨#[]⟩, 0⟩
/-- x + y -/
def aT (c d : UInt8) : List Nd := [⟨14, 0, ⟨#[]⟩, ⟨#[]⟩, 2⟩, vT c, vT d]
theorem vd_x : vdF (naF [vT 120]) [vT 120] = true := by kernel_rfl
theorem vd_y : vdF (naF [vT 121]) [vT 121] = true := by kernel_rfl
theorem vd_xy : vdF (naF (aT 120 121)) (aT 120 121) = true := by kernel_rfl
theorem nm_x : nameF (⟨#[120]⟩ : ByteArray).toList = true := by decide +kernel
theorem nm_y : nameF (⟨#[121]⟩ : ByteArray).toList = true := by decide +kernel
/-- two substitutions in a row, at the head of a block -/
structure Sub2 (w : World) (B : Nat) (va vb : Value) : Prop where
  c0 : w.cell? ⟨B, 0, none⟩ = some (.string ⟨#[120]⟩)
  c1 : w.cell? ⟨B, 1, none⟩ = some va
  c2 : w.cell? ⟨B, 2, none⟩ = some (.string ⟨#[121]⟩)
  c3 : w.cell? ⟨B, 3, none⟩ = some vb
  lt : B < w.heap.size
theorem Sub2.far {w w' : World} {B : Nat} {va vb : Value} (h : Sub2 w B va vb) (hb : Below w.heap.size w w') : Sub2 w' B va vb :=
  ⟨(hb.cell (p := ⟨B, 0, none⟩) h.lt).trans h.c0, (hb.cell (p := ⟨B, 1, none⟩) h.lt).trans h.c1, (hb.cell (p := ⟨B, 2, none⟩) h.lt).trans h.c2, (hb.cell (p := ⟨B, 3, none⟩) h.lt).trans h.c3, Nat.lt_of_lt_of_le h.lt hb.size⟩
section
set_option maxRecDepth 100000
set_option maxHeartbeats 4000000
theorem lawVar_any (s : ByteArray) (sort : Int) (w : World) : Calls Tryz.prog 21 #[.string s, .int .i64 sort] w (OneN ⟨4, sort, s, ⟨#[]⟩, 0⟩ w) := by
  have HN := Lib.hid (OneN.new ⟨4, sort, s, ⟨#[]⟩, 0⟩ w)
  go_enter Tryz.func21, Tryz.ntmps21
  go_wp2
  go_ret
  exact HN.out
theorem valid_one (c : UInt8) (hc : vdF (naF [vT c]) [vT c] = true) (g cap : Nat) (w : World) (hg : g < w.heap.size) (hN : NodesAt w g [vT c]) (hEn : Env w) :
    Calls Tryz.prog 27 #[.slice (some ⟨g, 0, none⟩) 1 cap] w fun e w' => e = .returned (.bool true) ∧ Below w.heap.size w w' := by
  have h := valid_of (chk_vars g cap [vT c] w (show (1 : Nat) ≤ 20000 by decide) hg hN (by intro x hx; obtain rfl := List.mem_singleton.1 hx; show (⟨#[]⟩ : ByteArray).size ≤ 1000; decide) hEn (by intro x hx; obtain rfl := List.mem_singleton.1 hx; show ¬ (4 : Int) = 5; decide))
  rw [hc] at h
  exact h
theorem validSub_any (c d : UInt8) (hc : vdF (naF [vT c]) [vT c] = true) (hd : nameF (⟨#[d]⟩ : ByteArray).toList = true) (g cap : Nat) (w : World) (hg : g < w.heap.size) (hN : NodesAt w g [vT c]) (hEn : Env w) :
    Calls Tryz.prog 70 #[.agg #[.string ⟨#[d]⟩, .slice (some ⟨g, 0, none⟩) 1 cap]] w fun e w' => e = .returned (.bool false) ∧ Below w.heap.size w w' := by
  have hal := alloc_far' w (.cells #[.string ⟨#[d]⟩, .slice (some ⟨g, 0, none⟩) 1 cap] 53)
  have hbx := heap_alloc_new w (.cells #[.string ⟨#[d]⟩, .slice (some ⟨g, 0, none⟩) 1 cap] 53)
  have h1 := isName_any ⟨#[d]⟩ (w.alloc (.cells #[.string ⟨#[d]⟩, .slice (some ⟨g, 0, none⟩) 1 cap] 53))
  rw [hd] at h1
  have h2 := valid_one c hc g cap _ (Nat.lt_of_lt_of_le hg hal.size) (hN.below hal hg) (hEn.far hal)
  have HAL := Lib.hid hal
  have b0 := heap_cell hbx 0
  have b1 := heap_cell hbx 1
  clear hc hd hN hEn hal hbx
  go_enter Tryz.func70, Tryz.ntmps70
  go_wp2_with fail
  generalize hw1 : w.alloc (.cells #[.string ⟨#[d]⟩, .slice (some ⟨g, 0, none⟩) 1 cap] 53) = w1 at *
  generalize hS : w.heap.size = S at *
  refine h1.mono ?_
  rintro e w2 ⟨rfl, rfl⟩
  go_wp2_with fail
  refine h2.mono ?_
  rintro e w3 ⟨rfl, hb3⟩
  have HB := Lib.hid (HAL.out.trans (hb3.mono (by rw [← hS]; exact HAL.out.size)))
  clear h1 h2 hb3
  go_wp2
  go_ret
  exact ⟨rfl, by rw [hS]; exact HB.out⟩
/-- the two substitutions are permitted: none of them is found -/
theorem indexSub_any (B gy gx cy cx : Nat) (w : World) (hs : Sub2 w B (.slice (some ⟨gy, 0, none⟩) 1 cy) (.slice (some ⟨gx, 0, none⟩) 1 cx)) (hy : NodesAt w gy [vT 121]) (hx : NodesAt w gx [vT 120]) (hgy : gy < w.heap.size) (hgx : gx < w.heap.size) (hEn : Env w) :
    Calls Tryz.prog 92 #[.slice (some ⟨B, 0, none⟩) 2 2, .func (.func 70) #[] #[]] w fun e w' => e = .returned (.int .i64 (-1)) ∧ Below w.heap.size w w' := by
  have HS := Lib.hid hs
  have HX := Lib.hid hx
  have HY := Lib.hid hy
  have HEN := Lib.hid hEn
  clear hs hx hy hEn
  go_enter Tryz.func92, Tryz.ntmps92
  go_wp2
  go_loopw [8] (fun i wr => ∃ k : Nat, k ≤ 2 ∧ i = .int .i64 k ∧ Below w.heap.size w wr) (fun i _ => 2 - (intOf i).toNat)
  case atStart => exact ⟨0, by omega, rfl, Below.refl _ _⟩
  case round =>
    obtain ⟨k, hk, rfl, hb⟩ := hrel
    have HB := Lib.hid hb
    have hS := HS.out.far hb
    have c0 := hS.c0
    have c1 := hS.c1
    have c2 := hS.c2
    have c3 := hS.c3
    have hd0 := validSub_any 121 120 vd_y nm_x gy cy wr (Nat.lt_of_lt_of_le hgy hb.size) (HY.out.below hb hgy) (HEN.out.far hb)
    have hd1 := validSub_any 120 121 vd_x nm_y gx cx wr (Nat.lt_of_lt_of_le hgx hb.size) (HX.out.below hb hgx) (HEN.out.far hb)
    clear hb hS
    match k, hk with
    | 0, hk =>
      go_wp2_with (go_at_call 70; refine hd0.mono ?_; rintro e w1 ⟨rfl, hb1⟩)
      have HB1 := Lib.hid (HB.out.trans (hb1.mono HB.out.size))
      clear hb1
      go_wp2
      go_roundw
      case rel => exact ⟨1, by omega, by go_num, HB1.out⟩
      case measure => simp [intOf]
    | 1, hk =>
      go_wp2_with (go_at_call 70; refine hd1.mono ?_; rintro e w1 ⟨rfl, hb1⟩)
      have HB1 := Lib.hid (HB.out.trans (hb1.mono HB.out.size))
      clear hb1
      go_wp2
      go_roundw
      case rel => exact ⟨2, by omega, by go_num, HB1.out⟩
      case measure => simp [intOf]
    | 2, hk =>
      go_wp2
      go_ret
      exact ⟨rfl, HB.out⟩
theorem containsSub_any (B gy gx cy cx : Nat) (w : World) (hs : Sub2 w B (.slice (some ⟨gy, 0, none⟩) 1 cy) (.slice (some ⟨gx, 0, none⟩) 1 cx)) (hy : NodesAt w gy [vT 121]) (hx : NodesAt w gx [vT 120]) (hgy : gy < w.heap.size) (hgx : gx < w.heap.size) (hEn : Env w) :
    Calls Tryz.prog 69 #[.slice (some ⟨B, 0, none⟩) 2 2, .func (.func 70) #[] #[]] w fun e w' => e = .returned (.bool false) ∧ Below w.heap.size w w' := by
  have hi := indexSub_any B gy gx cy cx w hs hy hx hgy hgx hEn
  clear hs hy hx hEn
  go_enter Tryz.func69, Tryz.ntmps69
  go_wp2_with fail
  refine hi.mono ?_
  rintro e w1 ⟨rfl, hb⟩
  clear hi
  go_wp2
  go_ret
  exact ⟨rfl, hb⟩
theorem validSubs_any (B gy gx cy cx : Nat) (w : World) (hs : Sub2 w B (.slice (some ⟨gy, 0, none⟩) 1 cy) (.slice (some ⟨gx, 0, none⟩) 1 cx)) (hy : NodesAt w gy [vT 121]) (hx : NodesAt w gx [vT 120]) (hgy : gy < w.heap.size) (hgx : gx < w.heap.size) (hEn : Env w) :
    Calls Tryz.prog 47 #[.slice (some ⟨B, 0, none⟩) 2 2] w fun e w' => e = .returned (.bool true) ∧ Below w.heap.size w w' := by
  have hi := containsSub_any B gy gx cy cx w hs hy hx hgy hgx hEn
  clear hs hy hx hEn
  go_enter Tryz.func47, Tryz.ntmps47
  go_wp2_with fail
  refine hi.mono ?_
  rintro e w1 ⟨rfl, hb⟩
  clear hi
  go_wp2
  go_ret
  exact ⟨rfl, hb⟩
theorem zeroNodes (w : World) : (zeroValue 26).run Tryz.prog w = .ok (.slice none 0 0) w := by kernel_rfl
/-- the table of the two -/
def tab2 (va vb : Value) : Nat → List (ByteArray × Value)
  | 0 => []
  | 1 => [(⟨#[120]⟩, va)]
  | _ => [(⟨#[120]⟩, va), (⟨#[121]⟩, vb)]
theorem table_any (B gy gx cy cx : Nat) (w : World) (hs : Sub2 w B (.slice (some ⟨gy, 0, none⟩) 1 cy) (.slice (some ⟨gx, 0, none⟩) 1 cx)) :
    Calls Tryz.prog 48 #[.slice (some ⟨B, 0, none⟩) 2 2] w fun e w' => e = .returned (.tuple #[.map (some w.heap.size), .bool true]) ∧ MapS w' w.heap.size (tab2 (.slice (some ⟨gy, 0, none⟩) 1 cy) (.slice (some ⟨gx, 0, none⟩) 1 cx) 2) ∧ Below w.heap.size w w' := by
  have hm1 := @run_makeMapN Tryz.prog _ _ _ Tryz.underlying79 .i64 2
  have HS := Lib.hid hs
  have HM := Lib.hid (MapS.made w)
  have HBW := Lib.hid (alloc_far' w (.map #[] 0))
  clear hs
  go_enter Tryz.func48, Tryz.ntmps48
  go_wp2
  generalize hw1 : w.alloc (.map #[] 0) = w1 at *
  generalize hM : w.heap.size = M at *
  have HW := Lib.hid hM
  clear hM hw1 hm1
  go_loopw [14] (fun i wr => ∃ k : Nat, k ≤ 2 ∧ i = .int .i64 k ∧ MapS wr M (tab2 (.slice (some ⟨gy, 0, none⟩) 1 cy) (.slice (some ⟨gx, 0, none⟩) 1 cx) k) ∧ Below M w wr) (fun i _ => 2 - (intOf i).toNat)
  case atStart => exact ⟨0, by omega, rfl, HM.out, HBW.out⟩
  case round =>
    obtain ⟨k, hk, rfl, hm, hb⟩ := hrel
    clear HM HBW
    have HB := Lib.hid hb
    have HM := Lib.hid hm
    have hS := HS.out.far (by rw [HW.out]; exact hb)
    have c0 := hS.c0
    have c1 := hS.c1
    have c2 := hS.c2
    have c3 := hS.c3
    clear hb hS hm
    match k, hk with
    | 0, hk =>
      have hal := alloc_far' wr (.cells #[.string ⟨#[120]⟩, .slice (some ⟨gy, 0, none⟩) 1 cy] 53)
      have HMA := Lib.hid (HM.out.far hal)
      have HBA := Lib.hid (HB.out.trans (hal.mono (Nat.le_of_lt HM.out.lt)))
      clear hal
      go_wp2_with (first | (at_lookup; go_loud (refine wpList_look_miss rfl 9 26 79 _ _ rfl Tryz.underlying9 Tryz.underlying79 M _ rfl HMA.out ⟨#[120]⟩ rfl _ (by kernel_rfl) (zeroNodes _) ?_)) | (at_mapUpdate; go_loud (refine wpList_put_any rfl 9 26 79 _ _ _ rfl Tryz.underlying9 Tryz.underlying79 M _ rfl HMA.out ⟨#[120]⟩ rfl _ rfl ?_)))
      intro w4 hm4 hgr
      have HN := Lib.hid hm4
      have HG := Lib.hid (HBA.out.grown hgr (Nat.le_of_lt HMA.out.lt) (fun k e => by cases e; exact Nat.le_refl _))
      clear hm4 hgr
      go_wp2_with fail
      go_roundw
      case rel => exact ⟨1, by omega, by go_num, HN.out, HG.out⟩
      case measure => simp [intOf]
    | 1, hk =>
      have hal := alloc_far' wr (.cells #[.string ⟨#[121]⟩, .slice (some ⟨gx, 0, none⟩) 1 cx] 53)
      have HMA := Lib.hid (HM.out.far hal)
      have HBA := Lib.hid (HB.out.trans (hal.mono (Nat.le_of_lt HM.out.lt)))
      clear hal
      go_wp2_with (first | (at_lookup; go_loud (refine wpList_look_miss rfl 9 26 79 _ _ rfl Tryz.underlying9 Tryz.underlying79 M _ rfl HMA.out ⟨#[121]⟩ rfl _ (by kernel_rfl) (zeroNodes _) ?_)) | (at_mapUpdate; go_loud (refine wpList_put_any rfl 9 26 79 _ _ _ rfl Tryz.underlying9 Tryz.underlying79 M _ rfl HMA.out ⟨#[121]⟩ rfl _ rfl ?_)))
      intro w4 hm4 hgr
      have HN := Lib.hid hm4
      have HG := Lib.hid (HBA.out.grown hgr (Nat.le_of_lt HMA.out.lt) (fun k e => by cases e; exact Nat.le_refl _))
      clear hm4 hgr
      go_wp2_with fail
      go_roundw
      case rel => exact ⟨2, by omega, by go_num, HN.out, HG.out⟩
      case measure => simp [intOf]
    | 2, hk =>
      go_wp2
      go_ret2
      exact ⟨by rw [HW.out]; rfl, by rw [HW.out]; exact HM.out, by rw [HW.out]; exact HB.out⟩
end
end Go.Proofs.YthefknoicelhaaaGreatDoor.Se

/- Lcm of package number at texts of integers. -/
import Derived.Test.YtgehimcngljmnaaGreatDoorCR
import Derived.Deep.RegionHeld3
namespace Go.Proofs.YtgehimcngljmnaaGreatDoor
open Go.RowKit Nmx

/-- two integers in blocks G and G + 1 -/
structure LB (w wx : World) (G : Nat) (x0 x1 x2 y0 y1 y2 : Value) (x y : Int) : Prop where
  ha : wx.heap[G]? = some (.cells #[x0, x1, x2] 58 (0, 0))
  hb : wx.heap[G + 1]? = some (.cells #[y0, y1, y2] 58 (0, 0))
  ix : IV wx (.agg #[x0, x1, x2]) x
  iy : IV wx (.agg #[y0, y1, y2]) y
  ge : w.heap.size ≤ G
  bel : Below w.heap.size w wx
theorem LB.far {w wx w1 : World} {G : Nat} {x0 x1 x2 y0 y1 y2 : Value} {x y : Int} (h : LB w wx G x0 x1 x2 y0 y1 y2 x y) (hb : Below wx.heap.size wx w1) : LB w w1 G x0 x1 x2 y0 y1 y2 x y :=
  ⟨(hb.block _ (lt_of_heap h.ha)).trans h.ha, (hb.block _ (lt_of_heap h.hb)).trans h.hb, h.ix.far hb, h.iy.far hb, h.ge, h.bel.trans (hb.mono h.bel.size)⟩
theorem LB.al {w wx : World} {G : Nat} {x0 x1 x2 y0 y1 y2 : Value} {x y : Int} (h : LB w wx G x0 x1 x2 y0 y1 y2 x y) (o : Obj) : LB w (wx.alloc o) G x0 x1 x2 y0 y1 y2 x y := h.far ((Below.refl _ _).alloc (Nat.le_refl _) _)
theorem LB.drew {w wx : World} {G : Nat} {x0 x1 x2 y0 y1 y2 : Value} {x y : Int} (h : LB w wx G x0 x1 x2 y0 y1 y2 x y) : LB w wx.drew G x0 x1 x2 y0 y1 y2 x y := h.far (Below.refl _ _).drew
theorem LB.lt {w wx : World} {G : Nat} {x0 x1 x2 y0 y1 y2 : Value} {x y : Int} (h : LB w wx G x0 x1 x2 y0 y1 y2 x y) : G + 1 < wx.heap.size := lt_of_heap h.hb
theorem LB.st {w wx : World} {G Q : Nat} {x0 x1 x2 y0 y1 y2 : Value} {x y : Int} (h : LB w wx G x0 x1 x2 y0 y1 y2 x y) (hQ : ∃ cs, wx.heap[Q]? = some (.cells cs 58 (0, 0))) (hG : G + 1 < Q) (a b c : Value) :
    LB w (((wx.setCell ⟨Q, 0, none⟩ a).setCell ⟨Q, 1, none⟩ b).setCell ⟨Q, 2, none⟩ c) G x0 x1 x2 y0 y1 y2 x y := by
  have hge := h.ge
  obtain ⟨cs, hQ⟩ := hQ
  refine ⟨?_, ?_, IV.set3 h.ix hQ a b c, IV.set3 h.iy hQ a b c, h.ge, ?_⟩
  · rw [set3_other _ _ _ (by omega)]; exact h.ha
  · rw [set3_other _ _ _ (by omega)]; exact h.hb
  · exact ((h.bel.setCell (show w.heap.size ≤ (⟨Q, 0, none⟩ : Addr).block by show _ ≤ Q; omega) _).setCell (show w.heap.size ≤ (⟨Q, 1, none⟩ : Addr).block by show _ ≤ Q; omega) _).setCell (show w.heap.size ≤ (⟨Q, 2, none⟩ : Addr).block by show _ ≤ Q; omega) _
theorem LB.cells {w wx : World} {G : Nat} {x0 x1 x2 y0 y1 y2 : Value} {x y : Int} (h : LB w wx G x0 x1 x2 y0 y1 y2 x y) : wx.cell? ⟨G, 0, none⟩ = some x0 ∧ wx.cell? ⟨G, 1, none⟩ = some x1 ∧ wx.cell? ⟨G, 2, none⟩ = some x2 ∧ wx.cell? ⟨G + 1, 0, none⟩ = some y0 ∧ wx.cell? ⟨G + 1, 1, none⟩ = some y1 ∧ wx.cell? ⟨G + 1, 2, none⟩ = some y2 :=
  ⟨heap_cell h.ha 0, heap_cell h.ha 1, heap_cell h.ha 2, heap_cell h.hb 0, heap_cell h.hb 1, heap_cell h.hb 2⟩
theorem heap_al {w : World} {Q : Nat} {ob : Obj} (h : w.heap[Q]? = some ob) (o : Obj) : (w.alloc o).heap[Q]? = some ob := (Below.heap_alloc _ _ _ (lt_of_heap h)).trans h
theorem heap_st {w : World} {Q R : Nat} {ob : Obj} (h : w.heap[Q]? = some ob) (hne : Q ≠ R) (a b c : Value) : (((w.setCell ⟨R, 0, none⟩ a).setCell ⟨R, 1, none⟩ b).setCell ⟨R, 2, none⟩ c).heap[Q]? = some ob := by rw [set3_other _ _ _ hne]; exact h
theorem IV.st {w : World} {v : Value} {z : Int} {Q : Nat} (h : IV w v z) (hQ : ∃ cs, w.heap[Q]? = some (.cells cs 58 (0, 0))) (a b c : Value) : IV (((w.setCell ⟨Q, 0, none⟩ a).setCell ⟨Q, 1, none⟩ b).setCell ⟨Q, 2, none⟩ c) v z := let ⟨_, hQ⟩ := hQ; IV.set3 h hQ a b c
theorem ex_al {w : World} {Q : Nat} (h : ∃ cs, w.heap[Q]? = some (.cells cs 58 (0, 0))) (o : Obj) : ∃ cs, (w.alloc o).heap[Q]? = some (.cells cs 58 (0, 0)) := let ⟨cs, h⟩ := h; ⟨cs, heap_al h o⟩
theorem ex_st {w : World} {Q R : Nat} (h : ∃ cs, w.heap[Q]? = some (.cells cs 58 (0, 0))) (a b c : Value) : ∃ cs, (((w.setCell ⟨R, 0, none⟩ a).setCell ⟨R, 1, none⟩ b).setCell ⟨R, 2, none⟩ c).heap[Q]? = some (.cells cs 58 (0, 0)) := by
  obtain ⟨cs, h⟩ := h
  by_cases e : Q = R
  · subst e
    exact ⟨_, heap_set (heap_set (heap_set h 0 a) 1 b) 2 c⟩
  · exact ⟨cs, heap_st h e a b c⟩
theorem heap_new2 {w : World} {o : Obj} {cs : Array Value} {t : TypeId} : ((w.alloc o).alloc (.cells cs t)).heap[w.heap.size + 1]? = some (.cells cs t (0, 0)) := by
  have := heap_alloc_new (w.alloc o) (.cells cs t)
  simpa using this
theorem heap_new3 {w : World} {R : Nat} {x y z : Value} {cs : Array Value} {t : TypeId} : ((((w.setCell ⟨R, 0, none⟩ x).setCell ⟨R, 1, none⟩ y).setCell ⟨R, 2, none⟩ z).alloc (.cells cs t)).heap[w.heap.size]? = some (.cells cs t (0, 0)) := by
  have := heap_alloc_new (((w.setCell ⟨R, 0, none⟩ x).setCell ⟨R, 1, none⟩ y).setCell ⟨R, 2, none⟩ z) (.cells cs t)
  simpa [World.setCell] using this
def E3 (w : World) (Q : Nat) : Prop := ∃ a b c, w.heap[Q]? = some (.cells #[a, b, c] 58 (0, 0))
theorem e3_of {w : World} {Q : Nat} {a b c : Value} (h : w.heap[Q]? = some (.cells #[a, b, c] 58 (0, 0))) : E3 w Q := ⟨a, b, c, h⟩
theorem E3.al {w : World} {Q : Nat} (h : E3 w Q) (o : Obj) : E3 (w.alloc o) Q := let ⟨a, b, c, h⟩ := h; ⟨a, b, c, heap_al h o⟩
theorem E3.st {w : World} {Q R : Nat} (h : E3 w Q) (hne : Q ≠ R) (a b c : Value) : E3 (((w.setCell ⟨R, 0, none⟩ a).setCell ⟨R, 1, none⟩ b).setCell ⟨R, 2, none⟩ c) Q := let ⟨x, y, z, h⟩ := h; ⟨x, y, z, heap_st h hne a b c⟩
theorem heap_same {w : World} {Q : Nat} (h : E3 w Q) (a b c : Value) : (((w.setCell ⟨Q, 0, none⟩ a).setCell ⟨Q, 1, none⟩ b).setCell ⟨Q, 2, none⟩ c).heap[Q]? = some (.cells #[a, b, c] 58 (0, 0)) := let ⟨_, _, _, h⟩ := h; set3_heap h
/-- the quotient in a block Q -/
def LQ (w : World) (G : Nat) (y0 y1 y2 : Value) (y q : Int) (v : Value) (wx : World) : Prop := ∃ Q : Nat, ∃ s : Int, ∃ b : Bool, ∃ a : Option Addr, ∃ n c : Nat, v = .pointer (some ⟨Q, 0, none⟩) ∧ wx.heap[Q]? = some (.cells #[.int .i64 s, .bool b, .slice a n c] 58 (0, 0)) ∧ IV wx (.agg #[.int .i64 s, .bool b, .slice a n c]) q ∧ wx.heap[G + 1]? = some (.cells #[y0, y1, y2] 58 (0, 0)) ∧ IV wx (.agg #[y0, y1, y2]) y ∧ Below w.heap.size w wx
theorem lq_of {w wx : World} {G : Nat} {x0 x1 x2 y0 y1 y2 : Value} {x y q : Int} {Q : Nat} {s : Int} {b : Bool} {a : Option Addr} {n c : Nat} (h1 : wx.heap[Q]? = some (.cells #[.int .i64 s, .bool b, .slice a n c] 58 (0, 0))) (h2 : IV wx (.agg #[.int .i64 s, .bool b, .slice a n c]) q) (h3 : LB w wx G x0 x1 x2 y0 y1 y2 x y) : LQ w G y0 y1 y2 y q (.pointer (some ⟨Q, 0, none⟩)) wx :=
  ⟨Q, s, b, a, n, c, rfl, h1, h2, h3.hb, h3.iy, h3.bel⟩
/-- the blocks that were there -/
def Kept (w w' : World) : Prop := ∀ (Q : Nat) (ob : Obj), w.heap[Q]? = some ob → w'.heap[Q]? = some ob
theorem kept_of {w w' : World} (h : Below w.heap.size w w') : Kept w w' := fun _ _ hq => (h.block _ (lt_of_heap hq)).trans hq
theorem kept_drew {w w' : World} (h : Kept w.drew w') : Kept w w' := h
/-- a block that was made ahead of a call -/
theorem made1 {w w' : World} {cs : Array Value} {t : TypeId} (h : Kept (w.alloc (.cells cs t)) w') : w'.heap[w.heap.size]? = some (.cells cs t (0, 0)) := h _ _ (heap_alloc_new w _)
theorem made3 {w w' : World} {cs : Array Value} {t : TypeId} {o : Obj} (h : Kept ((w.alloc o).alloc (.cells cs t)) w') : w'.heap[w.heap.size + 1]? = some (.cells cs t (0, 0)) := by
  have := h _ _ (heap_alloc_new (w.alloc o) (.cells cs t))
  simpa using this
theorem made2 {w w' : World} {cs : Array Value} {t : TypeId} {o : Obj} (h : Kept ((w.alloc (.cells cs t)).alloc o) w') : w'.heap[w.heap.size]? = some (.cells cs t (0, 0)) := h _ _ (heap_al (heap_alloc_new w _) _)
theorem kept1 {w w' : World} {Q : Nat} {ob : Obj} {o : Obj} (h : Kept (w.alloc o) w') (hq : w.heap[Q]? = some ob) : w'.heap[Q]? = some ob := h _ _ (heap_al hq _)
theorem kept0 {w w' : World} {Q : Nat} {ob : Obj} (h : Kept w w') (hq : w.heap[Q]? = some ob) : w'.heap[Q]? = some ob := h _ _ hq
theorem lcI_nz {x y : Int} (h0 : x ≠ 0) (h1 : y ≠ 0) : lcI x y = ((x / (Int.gcd x y : Int) * y).natAbs : Int) := by unfold lcI; rw [if_neg (by omega)]
section
set_option maxRecDepth 100000
set_option maxHeartbeats 16000000
theorem numLcm_nz {d e : Nat} {x y : Int} (hx : x.natAbs < 10 ^ d) (hy : y.natAbs < 10 ^ e) (hd : d ≤ 3000) (he : e ≤ 3000) (h0 : x ≠ 0) (h1 : y ≠ 0) (W : World) (h : Env W) : Calls Tryz.prog 40 #[.string (TX (x : Rat)), .string (TX (y : Rat))] W (GetsT ((lcI x y : Int) : Rat) W) := by
  have hin := intsT hx hy hd he W h
  have FX := Lib.hid (ds_fit hx hd)
  have FY := Lib.hid (ds_fit hy he)
  have HE := Lib.hid h
  have hxb : decide (x = 0) = false := decide_eq_false h0
  have hyb : decide (y = 0) = false := decide_eq_false h1
  have hg1 : (Int.gcd x y : Int) ≠ 0 := by
    have h3 : 0 < Int.gcd x y := Int.gcd_pos_iff.2 (.inl h0)
    omega
  obtain ⟨g, hg⟩ : ∃ g : Int, (Int.gcd x y : Int) = g := ⟨_, rfl⟩
  have FG : Hid (Fit g) := Lib.hid (by rw [← hg]; exact fit_le FX.out (Int.gcd_le_natAbs_left y h0) (Int.natAbs_natCast _))
  have FQ : Hid (Fit (x / g)) := Lib.hid (fit_div FX.out)
  rw [hg] at hg1
  have HG1 := Lib.hid hg1
  have HG := Lib.hid hg
  unfold GetsT
  obtain ⟨tg, htg⟩ : ∃ tg, TX ((lcI x y : Int) : Rat) = tg := ⟨_, rfl⟩
  rw [htg]
  rw [lcI_nz h0 h1, hg] at htg
  have HTG := Lib.hid htg
  clear h hx hy hd he htg h0 h1 hg1 hg
  generalize TX (x : Rat) = tx at *
  generalize TX (y : Rat) = ty at *
  go_enter Tryz.func40, Tryz.ntmps40
  go_wp2_with fail
  refine hin.mono ?_
  rintro e w1 ⟨v1, v2, rfl, hv1, hv2, hb1⟩
  have hsz := hb1.size
  obtain ⟨s1, b1, a1, n1, c1, rfl⟩ := iv_form hv1
  obtain ⟨s2, b2, a2, n2, c2, rfl⟩ := iv_form hv2
  have hbx := below2 w1 (.cells #[.int .i64 s1, .bool b1, .slice a1 n1 c1] 58) (.cells #[.int .i64 s2, .bool b2, .slice a2 n2 c2] 58)
  have HL0 : Hid (LB W ((w1.alloc (.cells #[.int .i64 s1, .bool b1, .slice a1 n1 c1] 58)).alloc (.cells #[.int .i64 s2, .bool b2, .slice a2 n2 c2] 58)) w1.heap.size (.int .i64 s1) (.bool b1) (.slice a1 n1 c1) (.int .i64 s2) (.bool b2) (.slice a2 n2 c2) x y) := Lib.hid
    ⟨(Below.heap_alloc _ _ _ (by simp)).trans (heap_alloc_new w1 _), new_second w1 _ _, hv1.far hbx, hv2.far hbx, hsz, hb1.trans (hbx.mono hsz)⟩
  clear hv1 hv2 hb1 hin hsz hbx
  have hiz := isZero_any _ x _ HL0.out.ix
  rw [hxb] at hiz
  clear hxb
  go_wp2_with fail
  refine hiz.mono ?_
  rintro e w2 ⟨rfl, hb2⟩
  have HL2 := Lib.hid (HL0.out.far hb2)
  clear hb2 hiz HL0
  generalize w1.heap.size = G at *
  have hiy := isZero_any _ y _ HL2.out.iy
  rw [hyb] at hiy
  clear hyb
  obtain ⟨k0, k1, k2, l0, l1, l2⟩ := HL2.out.cells
  go_wp2_with fail
  refine hiy.mono ?_
  rintro e w3 ⟨rfl, hb3⟩
  have HL3 := Lib.hid (HL2.out.far hb3)
  clear hb3 hiy HL2 k0 k1 k2 l0 l1 l2
  obtain ⟨k0, k1, k2, l0, l1, l2⟩ := HL3.out.cells
  have hgc : ∀ W', LB W W' G (.int .i64 s1) (.bool b1) (.slice a1 n1 c1) (.int .i64 s2) (.bool b2) (.slice a2 n2 c2) x y → Calls Tryz.prog 97 #[.agg #[.int .i64 s1, .bool b1, .slice a1 n1 c1], .agg #[.int .i64 s2, .bool b2, .slice a2 n2 c2]] W' fun e w' => ∃ s b a n c, e = .returned (.agg #[.int .i64 s, .bool b, .slice a n c]) ∧ IV w' (.agg #[.int .i64 s, .bool b, .slice a n c]) g ∧ LB W w' G (.int .i64 s1) (.bool b1) (.slice a1 n1 c1) (.int .i64 s2) (.bool b2) (.slice a2 n2 c2) x y ∧ Kept W' w' := by
    intro W' hL
    refine (gcd_any _ _ x y W' hL.ix hL.iy FX.out FY.out).mono ?_
    rintro e w' ⟨v, rfl, hv, hb⟩
    rw [HG.out] at hv
    obtain ⟨s, b, a, n, c, rfl⟩ := iv_form hv
    exact ⟨s, b, a, n, c, rfl, hv, hL.far hb, kept_of hb⟩
  have hqr : ∀ W' s b a n c, LB W W' G (.int .i64 s1) (.bool b1) (.slice a1 n1 c1) (.int .i64 s2) (.bool b2) (.slice a2 n2 c2) x y → IV W' (.agg #[.int .i64 s, .bool b, .slice a n c]) g → Calls Tryz.prog 99 #[.agg #[.int .i64 s1, .bool b1, .slice a1 n1 c1], .agg #[.int .i64 s, .bool b, .slice a n c]] W' fun e w' => ∃ s3 b3 a3 n3 c3 s4 b4 a4 n4 c4, e = .returned (.tuple #[.agg #[.int .i64 s3, .bool b3, .slice a3 n3 c3], .agg #[.int .i64 s4, .bool b4, .slice a4 n4 c4]]) ∧ IV w' (.agg #[.int .i64 s3, .bool b3, .slice a3 n3 c3]) (x / g) ∧ LB W w' G (.int .i64 s1) (.bool b1) (.slice a1 n1 c1) (.int .i64 s2) (.bool b2) (.slice a2 n2 c2) x y ∧ Kept W' w' := by
    intro W' s b a n c hL hI
    refine (quoRem_any _ _ x g W' hL.ix hI FX.out FG.out HG1.out).mono ?_
    rintro e w' ⟨v, u, rfl, hv, hu, hb⟩
    obtain ⟨s3, b3, a3, n3, c3, rfl⟩ := iv_form hv
    obtain ⟨s4, b4, a4, n4, c4, rfl⟩ := iv_form hu
    exact ⟨s3, b3, a3, n3, c3, s4, b4, a4, n4, c4, rfl, hv, hL.far hb, kept_of hb⟩
  go_upto_region 6 with fail
  go_cut [8, 9] (fun v _ wx => LQ W G (.int .i64 s2) (.bool b2) (.slice a2 n2 c2) y (x / g) v wx)
  case first =>
    have hl3 := HL3.out.lt
    go_region_held3 (fun w' => w'.cell? ⟨G, 0, none⟩ = some (.int .i64 s1) ∧ w'.cell? ⟨G, 1, none⟩ = some (.bool b1) ∧ w'.cell? ⟨G, 2, none⟩ = some (.slice a1 n1 c1) ∧ w'.cell? ⟨G + 1, 0, none⟩ = some (.int .i64 s2) ∧ w'.cell? ⟨G + 1, 1, none⟩ = some (.bool b2) ∧ w'.cell? ⟨G + 1, 2, none⟩ = some (.slice a2 n2 c2))
      ((refine LB.cells (w := W) (x := x) (y := y) ?_; repeat' (first | with_reducible exact HL5.out | with_reducible exact HL4.out | with_reducible exact HL3.out | with_reducible refine LB.al ?_ _ | with_reducible refine LB.drew ?_ | with_reducible refine LB.st ?_ ?_ ?_ _ _ _ | (with_reducible exact ⟨_, HA5.out⟩) | (with_reducible exact ⟨_, HB5.out⟩) | (with_reducible exact ⟨_, HC5.out⟩) | (with_reducible exact ⟨_, HD5.out⟩) | with_reducible exact ⟨_, heap_alloc_new _ _⟩ | with_reducible refine ex_al ?_ _ | with_reducible refine ex_st ?_ _ _ _ | omega | (simp; omega))))
      (first
        | (go_at_call 97
           refine Calls.mono (hgc _ ?hw) ?_
           case hw => (repeat' (first | with_reducible exact HL3.out | with_reducible refine LB.al ?_ _ | with_reducible refine LB.drew ?_))
           rintro e w4 ⟨s5, b5, a5, n5, c5, rfl, hv4, hL4, hK4⟩
           (try (replace hK4 := (by with_reducible exact kept_drew hK4)))
           (first | (have HA4 := Lib.hid (by with_reducible exact made3 hK4)) | (have HA4 := Lib.hid (by with_reducible exact made1 hK4)) | skip)
           (try (have HB4 := Lib.hid (by with_reducible exact made2 hK4)))
           (try (have h4l := lt_of_heap HA4.out; have h4n := Nat.ne_of_lt h4l; have h4o := Nat.ne_of_gt h4l))
           (try (have h4p := lt_of_heap HB4.out; have h4q := Nat.ne_of_lt h4p; have h4r := Nat.ne_of_gt h4p))
           have HL4 := Lib.hid hL4
           have HV4 := Lib.hid hv4
           have hl4 := hL4.lt
           clear hv4 hL4 hK4)
        | (go_at_call 99
           refine Calls.mono (hqr _ _ _ _ _ _ ?hw ?hi) ?_
           case hw => (repeat' (first | with_reducible exact HL4.out | with_reducible refine LB.al ?_ _ | with_reducible refine LB.drew ?_))
           case hi => (repeat' (first | with_reducible exact HV4.out | with_reducible refine IV.alloc_of ?_ _ | with_reducible refine IV.drew ?_))
           rintro e w5 ⟨s6, b6, a6, n6, c6, s7, b7, a7, n7, c7, rfl, hv5, hL5, hK5⟩
           (try (replace hK5 := (by with_reducible exact kept_drew hK5)))
           (first | (have HA5 := Lib.hid (by with_reducible exact made3 hK5)) | (have HA5 := Lib.hid (by with_reducible exact made1 hK5)) | skip)
           (try (have HB5 := Lib.hid (by with_reducible exact made2 hK5)))
           (try (have HC5 := Lib.hid (kept0 hK5 HA4.out)))
           (try (have HC5 := Lib.hid (kept1 hK5 HA4.out)))
           (try (have HD5 := Lib.hid (kept0 hK5 HB4.out)))
           (try (have hal := lt_of_heap HA5.out; have ha0 := heap_cell HA5.out 0; have ha1 := heap_cell HA5.out 1; have ha2 := heap_cell HA5.out 2; have ha3 := fun i => heap_fz HA5.out i))
           (try (have hbl := lt_of_heap HB5.out; have hb0 := heap_cell HB5.out 0; have hb1 := heap_cell HB5.out 1; have hb2 := heap_cell HB5.out 2; have hb3 := fun i => heap_fz HB5.out i))
           (try (have hcl := lt_of_heap HC5.out; have hc0 := heap_cell HC5.out 0; have hc1 := heap_cell HC5.out 1; have hc2 := heap_cell HC5.out 2; have hc3 := fun i => heap_fz HC5.out i))
           (try (have hdl := lt_of_heap HD5.out; have hd0 := heap_cell HD5.out 0; have hd1 := heap_cell HD5.out 1; have hd2 := heap_cell HD5.out 2; have hd3 := fun i => heap_fz HD5.out i))
           have HL5 := Lib.hid hL5
           have HV5 := Lib.hid hv5
           have hl5 := hL5.lt
           clear hv5 hL5 hK5))
    all_goals (go_wp2_with fail; go_meet; refine lq_of (s := s6) (b := b6) (a := a6) (n := n6) (c := c6) ?_ ?_ (?_ : LB W _ G (.int .i64 s1) (.bool b1) (.slice a1 n1 c1) (.int .i64 s2) (.bool b2) (.slice a2 n2 c2) x y) <;> (repeat' (first | with_reducible exact HL5.out | with_reducible exact HV5.out | with_reducible refine LB.al ?_ _ | with_reducible refine LB.drew ?_ | with_reducible refine LB.st ?_ ?_ ?_ _ _ _ | with_reducible refine IV.alloc_of ?_ _ | with_reducible refine IV.drew ?_ | with_reducible refine IV.st ?_ ?_ _ _ _ | (with_reducible exact ⟨_, HA5.out⟩) | (with_reducible exact ⟨_, HB5.out⟩) | (with_reducible exact ⟨_, HC5.out⟩) | (with_reducible exact ⟨_, HD5.out⟩) | with_reducible exact ⟨_, heap_alloc_new _ _⟩ | with_reducible exact ⟨_, heap_new2⟩ | with_reducible refine ex_al ?_ _ | with_reducible refine ex_st ?_ _ _ _ | with_reducible exact e3_of HA5.out | with_reducible exact e3_of HB5.out | with_reducible exact e3_of HC5.out | with_reducible exact e3_of HD5.out | with_reducible refine E3.al ?_ _ | with_reducible refine E3.st ?_ ?_ _ _ _ | with_reducible exact heap_alloc_new _ _ | with_reducible exact heap_new2 | with_reducible exact heap_new3 | with_reducible refine heap_al ?_ _ | with_reducible refine heap_same ?_ _ _ _ | with_reducible refine heap_st ?_ ?_ _ _ _ | omega | (simp; omega))))
  case rest =>
    clear hgc hqr k0 k1 k2 l0 l1 l2
    obtain ⟨Q, s, b, a, n, c, rfl, hq, hv, hb1, hiy, hbel⟩ := hcut
    have HQ := Lib.hid hq
    have HV := Lib.hid hv
    have HY := Lib.hid hiy
    have HB := Lib.hid hbel
    have k0 := heap_cell hq 0
    have k1 := heap_cell hq 1
    have k2 := heap_cell hq 2
    have l0 := heap_cell hb1 0
    have l1 := heap_cell hb1 1
    have l2 := heap_cell hb1 2
    have hml := mul_any _ _ (x / g) y wc HV.out HY.out FQ.out FY.out
    clear hq hv hiy hbel hb1
    go_wp2_with fail
    refine hml.mono ?_
    rintro e w6 ⟨v6, rfl, hv6, hb6⟩
    have HB6 := Lib.hid (HB.out.trans (hb6.mono HB.out.size))
    have hab := abs_any v6 _ w6 hv6
    clear hml hb6 hv6
    go_wp2_with fail
    refine hab.mono ?_
    rintro e w7 ⟨v7, rfl, hv7, hb7⟩
    have HB7 := Lib.hid (HB6.out.trans (hb7.mono HB6.out.size))
    have hst := strAt_any _ v7 w7 (HE.out.far HB7.out) hv7
    rw [tx_int, HTG.out] at hst
    clear hab hb7 hv7
    go_wp2_with fail
    refine hst.mono ?_
    rintro e w8 ⟨rfl, hb8⟩
    have HB8 := Lib.hid (HB7.out.trans (hb8.mono HB7.out.size))
    clear hb8 hst
    go_wp2
    go_ret
    exact ⟨rfl, HB8.out⟩
theorem numLcmT {d e : Nat} {x y : Int} (hx : x.natAbs < 10 ^ d) (hy : y.natAbs < 10 ^ e) (hd : d ≤ 3000) (he : e ≤ 3000) (W : World) (h : Env W) : Calls Tryz.prog 40 #[.string (TX (x : Rat)), .string (TX (y : Rat))] W (GetsT ((lcI x y : Int) : Rat) W) := by
  by_cases h0 : x = 0 ∨ y = 0
  · have hz := numLcm_za hx hy hd he h0 W h
    have e0 : lcI x y = 0 := by unfold lcI; rw [if_pos h0]
    rw [e0]
    unfold GetsT
    rw [show TX ((0 : Int) : Rat) = ⟨#[48]⟩ from tx_int_zero]
    exact hz
  · exact numLcm_nz hx hy hd he (fun e => h0 (.inl e)) (fun e => h0 (.inr e)) W h
end
end Go.Proofs.YtgehimcngljmnaaGreatDoor

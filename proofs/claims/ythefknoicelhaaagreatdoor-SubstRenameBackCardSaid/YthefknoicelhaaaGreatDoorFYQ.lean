/- The reference's childSorts and funcAt at the root of a term. -/
import Derived.Test.YthefknoicelhaaaGreatDoorFWF
namespace Go.Proofs.YthefknoicelhaaaGreatDoor.Se
open Go.RowKit Nmx

/-- some slice, and the worlds of before -/
def SlcPost (w : World) (e : Ending) (w' : World) : Prop := ∃ a n c, e = .returned (.slice a n c) ∧ Below w.heap.size w w'
section
set_option maxHeartbeats 8000000
set_option maxRecDepth 100000
theorem heap_soft {w : World} {R : Nat} {cs : Array Value} {t : TypeId} (h : w.heap[R]? = some (.cells cs t (0, 0))) (i : Nat) : w.frozen? ⟨R, i, none⟩ = false := by
  unfold World.frozen?
  rw [h]
  simp
theorem set3_far {w : World} {B g : Nat} (hne : g ≠ B) (i j k l : Nat) (a b c : Value) : (((w.setCell ⟨B, i, none⟩ a).setCell ⟨B, j, none⟩ b).setCell ⟨B, k, none⟩ c).cell? ⟨g, l, none⟩ = w.cell? ⟨g, l, none⟩ :=
  World.cell?_of_block (((Below.heap_setCell _ _ _ _ hne).trans (Below.heap_setCell _ _ _ _ hne)).trans (Below.heap_setCell _ _ _ _ hne))
theorem funcAt_any (g cap n : Nat) (sort : Int) (name : ByteArray) (w : World) (hn : 1 ≤ n) (hnx : n ≤ 20000) (hg : g < w.heap.size) (h1 : w.cell? ⟨g, 1, none⟩ = some (.int .i64 sort)) (h2 : w.cell? ⟨g, 2, none⟩ = some (.string name))
    (hcs : ∀ W, Below w.heap.size w W → Calls Tryz.prog 85 #[.slice (some ⟨g, 0, none⟩) n cap, .int .i64 0] W (SlcPost W)) :
    Calls Tryz.prog 58 #[.slice (some ⟨g, 0, none⟩) n cap, .int .i64 0] w fun e w' => ∃ a k c, e = .returned (.agg #[.string name, .slice a k c, .int .i64 sort]) ∧ Below w.heap.size w w' := by
  have HC := Lib.hid hcs
  clear hcs
  have hn0 : (0 : Int) < (n : Int) := by omega
  have hn2 : 0 < n := by omega
  go_enter Tryz.func58, Tryz.ntmps58
  go_wp2
  have hal := alloc_far' w (.cells #[.string ⟨#[]⟩, .slice none 0 0, .int .i64 0] 98)
  have hbx := heap_alloc_new w (.cells #[.string ⟨#[]⟩, .slice none 0 0, .int .i64 0] 98)
  have hS1 : (w.alloc (.cells #[.string ⟨#[]⟩, .slice none 0 0, .int .i64 0] 98)).heap.size = w.heap.size + 1 := by simp
  have c1 := (hal.cell (p := ⟨g, 1, none⟩) hg).trans h1
  have c2 := (hal.cell (p := ⟨g, 2, none⟩) hg).trans h2
  generalize w.alloc (.cells #[.string ⟨#[]⟩, .slice none 0 0, .int .i64 0] 98) = w0 at *
  have hcs := HC.out w0.drew (below_draws hal 1)
  have HAL := Lib.hid hal
  have HBX := Lib.hid hbx
  have x0 := heap_cell hbx 0
  have x1 := heap_cell hbx 1
  have x2 := heap_cell hbx 2
  have z0 := heap_soft hbx 0
  have z1 := heap_soft hbx 1
  have z2 := heap_soft hbx 2
  clear HC hal h1 h2
  have hgS : g ≠ w.heap.size := by omega
  go_region_held3 (fun w' => w'.cell? ⟨g, 1, none⟩ = some (.int .i64 sort) ∧ w'.cell? ⟨g, 2, none⟩ = some (.string name)) (first | exact ⟨q1, q2⟩ | exact ⟨c1, c2⟩ | exact ⟨(set3_far hgS _ _ _ _ _ _ _).trans q1, (set3_far hgS _ _ _ _ _ _ _).trans q2⟩ | go_keep) ((go_at_call 85; refine hcs.mono ?_; rintro e w3 ⟨a, k, c, rfl, hb3⟩; have q1 := (hb3.cell (p := ⟨g, 1, none⟩) (by show g < w0.heap.size; omega)).trans c1; have q2 := (hb3.cell (p := ⟨g, 2, none⟩) (by show g < w0.heap.size; omega)).trans c2; have q3 := (hb3.block _ (by show w.heap.size < w0.heap.size; omega)).trans HBX.out; have x0 := heap_cell q3 0; have x1 := heap_cell q3 1; have x2 := heap_cell q3 2; have z0 := heap_soft q3 0; have z1 := heap_soft q3 1; have z2 := heap_soft q3 2; have HB3 := Lib.hid hb3; clear hb3))
  have hst := heap_set (heap_set (heap_set q3 0 (.string name)) 1 (.slice a k c)) 2 (.int .i64 sort)
  have HB5 : Hid (Below w.heap.size w (((w3.setCell ⟨w.heap.size, 0, none⟩ (.string name)).setCell ⟨w.heap.size, 1, none⟩ (.slice a k c)).setCell ⟨w.heap.size, 2, none⟩ (.int .i64 sort))) := Lib.hid (((((below_draws HAL.out 1).trans (HB3.out.mono (by show w.heap.size ≤ w0.heap.size; omega))).setCell (show w.heap.size ≤ w.heap.size from Nat.le_refl _) _).setCell (show w.heap.size ≤ w.heap.size from Nat.le_refl _) _).setCell (show w.heap.size ≤ w.heap.size from Nat.le_refl _) _)
  generalize ((w3.setCell ⟨w.heap.size, 0, none⟩ (.string name)).setCell ⟨w.heap.size, 1, none⟩ (.slice a k c)).setCell ⟨w.heap.size, 2, none⟩ (.int .i64 sort) = w5 at *
  have y0 : w5.cell? ⟨w.heap.size, 0, none⟩ = some (.string name) := (heap_cell hst 0).trans rfl
  have y1 : w5.cell? ⟨w.heap.size, 1, none⟩ = some (.slice a k c) := (heap_cell hst 1).trans rfl
  have y2 : w5.cell? ⟨w.heap.size, 2, none⟩ = some (.int .i64 sort) := (heap_cell hst 2).trans rfl
  clear hst HB3 q1 q2 q3 x0 x1 x2 z0 z1 z2
  go_wp2
  refine bodyPost_ret (v := .agg #[.string name, .slice a k c, .int .i64 sort]) ?_ rfl ⟨a, k, c, rfl, HB5.out⟩
  simp [results, Tryz.results58, go_sem, y0, y1, y2]
end
end Go.Proofs.YthefknoicelhaaaGreatDoor.Se
/- The reference's test that names are used in one way, where a function may stand at the root. -/
namespace Go.Proofs.YthefknoicelhaaaGreatDoor.Se
open Go.RowKit Nmx

theorem infoVar : (Tryz.prog.info? 40).map (fun i => (i.zero, i.size, i.bytes)) = some (some (.agg #[.string ⟨#[]⟩, .int .i64 0]), 2, 24) := by kernel_rfl
/-- the cells of a list of variables -/
def vrs (U : List (ByteArray × Int)) : List Value := U.flatMap fun p => [.string p.1, .int .i64 p.2]
theorem vrs_app (U V : List (ByteArray × Int)) : vrs (U ++ V) = vrs U ++ vrs V := by simp [vrs]
theorem vrs_get : ∀ (U : List (ByteArray × Int)) (j : Nat) (p : ByteArray × Int), U[j]? = some p → (vrs U)[j * 2]? = some (.string p.1) ∧ (vrs U)[j * 2 + 1]? = some (.int .i64 p.2) := by
  intro U
  induction U with
  | nil => intro j p h; cases h
  | cons a U ih =>
    intro j p h
    have e : vrs (a :: U) = .string a.1 :: .int .i64 a.2 :: vrs U := rfl
    cases j with
    | zero => rw [List.getElem?_cons_zero] at h; cases h; exact ⟨rfl, rfl⟩
    | succ j =>
      rw [List.getElem?_cons_succ] at h
      have := ih j p h
      rw [e, show (j + 1) * 2 = j * 2 + 2 by omega]
      exact this
/-- what the walk over the nodes keeps, at one of them -/
structure UV1 (B g i : Nat) (op sort : Int) (name : ByteArray) (w : World) (v : Value) (U : List (ByteArray × Int)) (W : World) : Prop where
  c0 : W.cell? ⟨g, i * 5, none⟩ = some (.int .i64 op)
  c1 : W.cell? ⟨g, i * 5 + 1, none⟩ = some (.int .i64 sort)
  c2 : W.cell? ⟨g, i * 5 + 2, none⟩ = some (.string name)
  lt : g < B
  hs : B ≤ W.heap.size
  bel : Below B w W
  row : W.ownsRow B 40 2 v U.length (vrs U)
theorem UV1.far {B g i : Nat} {op sort : Int} {name : ByteArray} {w : World} {v : Value} {U : List (ByteArray × Int)} {W W' : World} (h : UV1 B g i op sort name w v U W) (hb : Below W.heap.size W W') : UV1 B g i op sort name w v U W' :=
  have hl := Nat.lt_of_lt_of_le h.lt h.hs
  ⟨(hb.cell (p := ⟨g, i * 5, none⟩) hl).trans h.c0, (hb.cell (p := ⟨g, i * 5 + 1, none⟩) hl).trans h.c1, (hb.cell (p := ⟨g, i * 5 + 2, none⟩) hl).trans h.c2, h.lt, Nat.le_trans h.hs hb.size, h.bel.trans (hb.mono h.hs), own_below h.row hb (Nat.le_refl _)⟩
theorem UV1.drew {B g i : Nat} {op sort : Int} {name : ByteArray} {w : World} {v : Value} {U : List (ByteArray × Int)} {W : World} (h : UV1 B g i op sort name w v U W) : UV1 B g i op sort name w v U W.drew :=
  ⟨h.c0, h.c1, h.c2, h.lt, h.hs, below_draws h.bel 1, h.row⟩
theorem UV1.drewN {B g i : Nat} {op sort : Int} {name : ByteArray} {w : World} {v : Value} {U : List (ByteArray × Int)} {W : World} (h : UV1 B g i op sort name w v U W) (n : Nat) : UV1 B g i op sort name w v U (W.drewN n) :=
  ⟨h.c0, h.c1, h.c2, h.lt, h.hs, below_draws h.bel n, h.row⟩
theorem UV1.grow {B g i : Nat} {op sort : Int} {name : ByteArray} {w : World} {v v' : Value} {U U' : List (ByteArray × Int)} {W W' : World} (h : UV1 B g i op sort name w v U W) (hg : W.grownBy W' v.ownBlock) (hr : W'.ownsRow B 40 2 v' U'.length (vrs U')) : UV1 B g i op sort name w v' U' W' := by
  have hl := Nat.lt_of_lt_of_le h.lt h.hs
  have hne : ∀ j, W'.cell? ⟨g, j, none⟩ = W.cell? ⟨g, j, none⟩ := fun j => by
    rw [World.cell?, World.cell?, hg.block g hl (fun e => by have := (h.row.lt g e.symm).1; have := h.lt; omega)]
  exact ⟨(hne _).trans h.c0, (hne _).trans h.c1, (hne _).trans h.c2, h.lt, Nat.le_trans h.hs hg.size, h.bel.grown hg h.hs (fun k e => (h.row.lt k e).1), hr⟩
theorem infoFunc : (Tryz.prog.info? 98).map (fun i => (i.zero, i.size, i.bytes)) = some (some (.agg #[.string ⟨#[]⟩, .slice none 0 0, .int .i64 0]), 3, 48) := by kernel_rfl
/-- the functions that were met: none, or one whose name is no variable's -/
def FRow (V : List (ByteArray × Int)) (f : Value) (nf : Nat) (W : World) : Prop :=
  (nf = 0 ∧ f = .slice none 0 0) ∨ (nf = 1 ∧ ∃ gf cf nm, f = .slice (some ⟨gf, 0, none⟩) 1 cf ∧ gf < W.heap.size ∧ W.cell? ⟨gf, 0, none⟩ = some (.string nm) ∧ lookA nm V = none)
theorem FRow.far {V : List (ByteArray × Int)} {f : Value} {nf : Nat} {W W' : World} (h : FRow V f nf W) (hb : Below W.heap.size W W') : FRow V f nf W' := by
  rcases h with h | ⟨h, gf, cf, nm, h1, h2, h3, h4⟩
  · exact .inl h
  · exact .inr ⟨h, gf, cf, nm, h1, Nat.lt_of_lt_of_le h2 hb.size, (hb.cell (p := ⟨gf, 0, none⟩) h2).trans h3, h4⟩
/-- where the last loops stand -/
structure UE (V : List (ByteArray × Int)) (B : Nat) (w : World) (B1 : Nat) (v : Value) (U : List (ByteArray × Int)) (f : Value) (nf : Nat) (W : World) : Prop where
  row : W.ownsRow B1 40 2 v U.length (vrs U)
  fr : FRow V f nf W
  bel : Below B w W
  us : ∀ p ∈ U, lookA p.1 V = some p.2
  hs : B1 ≤ W.heap.size
theorem UE.drewN {V : List (ByteArray × Int)} {B : Nat} {w : World} {B1 : Nat} {v : Value} {U : List (ByteArray × Int)} {f : Value} {nf : Nat} {W : World} (h : UE V B w B1 v U f nf W) (n : Nat) : UE V B w B1 v U f nf (W.drewN n) :=
  ⟨h.row, h.fr.far (below_draws (Below.refl _ _) n), below_draws h.bel n, h.us, h.hs⟩
section
set_option maxHeartbeats 8000000
set_option maxRecDepth 100000
theorem uniform_any (V : List (ByteArray × Int)) (T : List Nd) (g cap : Nat) (w : World) (hN : NodesAt w g T) (hg : g < w.heap.size) (hT : T.length ≤ 20000) (hV : ∀ (k : Nat) (x : Nd), T[k]? = some x → (x.op ≠ 5 ∧ (x.op = 4 → lookA x.name V = some x.sort)) ∨ (k = 0 ∧ x.op = 5 ∧ lookA x.name V = none))
    (hcs : ∀ x, T[0]? = some x → x.op = 5 → ∀ W, Below w.heap.size w W → Calls Tryz.prog 85 #[.slice (some ⟨g, 0, none⟩) T.length cap, .int .i64 0] W (SlcPost W)) :
    Calls Tryz.prog 34 #[.slice (some ⟨g, 0, none⟩) T.length cap] w fun e w' => e = .returned (.bool true) ∧ Below w.heap.size w w' := by
  obtain ⟨i0, hi, hz0, hz1, hz2⟩ := info_parts infoVar
  obtain ⟨i1, ji, jz0, jz1, jz2⟩ := info_parts infoFunc
  have HN := Lib.hid hN
  have HV := Lib.hid hV
  obtain ⟨n, hnn⟩ : ∃ n, T.length = n := ⟨_, rfl⟩
  have HNN := Lib.hid hnn
  rw [hnn] at hT hcs ⊢
  have HCS := Lib.hid hcs
  clear hN hV hnn hcs
  generalize hB : w.heap.size = B at *
  have HBe := Lib.hid hB
  go_enter Tryz.func34, Tryz.ntmps34
  go_wp2
  go_loopw [3, 4, 5] (fun v f i wr => ∃ (k nf : Nat) (U : List (ByteArray × Int)) (w1 : World), k ≤ n ∧ FRow V f nf w1 ∧ i = .int .i64 k ∧ U.length ≤ k ∧ (∀ p ∈ U, lookA p.1 V = some p.2) ∧ wr.ownsRow w1.heap.size 40 2 v U.length (vrs U) ∧ Below B w w1 ∧ Below w1.heap.size w1 wr ∧ (k = 0 → nf = 0 ∧ U = [] ∧ v = .slice none 0 0)) (fun _ _ i _ => n - (intOf i).toNat)
  case atStart => exact ⟨0, 0, [], w, Nat.zero_le _, .inl ⟨rfl, rfl⟩, rfl, Nat.zero_le _, (fun p h => by cases h), World.ownsRow_nil _ _ _ _, Below.refl _ _, Below.refl _ _, fun _ => ⟨rfl, rfl, rfl⟩⟩
  case round =>
    obtain ⟨k, nf, U, w1, hk, hfr, rfl, hUk, hU, hrow, hb1, hbel, hz⟩ := hrel
    have HU := Lib.hid hU
    have HF := Lib.hid hfr
    have HB1 := Lib.hid hb1
    have hB1 : B ≤ w1.heap.size := by have := hb1.size; omega
    have hg1 : g < w1.heap.size := by omega
    have hbs : w1.heap.size ≤ wr.heap.size := hbel.size
    by_cases hlt : k < n
    · have hltI : (k : Int) < (n : Int) := by omega
      have hkT : k < T.length := by rw [HNN.out]; exact hlt
      have hx : T[k]? = some T[k] := List.getElem?_eq_getElem hkT
      have hnm := HV.out k T[k] hx
      have hNw := (HN.out.below hb1 hg).below hbel hg1
      have d0 := hNw k T[k] hx 0 (by decide)
      have d1 := hNw k T[k] hx 1 (by decide)
      have d2 := hNw k T[k] hx 2 (by decide)
      generalize T[k] = x at *
      obtain ⟨op, sort, name, num, kids⟩ := x
      have HX : Hid (UV1 w1.heap.size g k op sort name w1 u3 U wr) := Lib.hid ⟨d0, d1, d2, hg1, hbs, hbel, hrow⟩
      simp only at hnm
      rcases hnm with hnm | ⟨rfl, rfl, hlk⟩
      rotate_left
      · obtain ⟨rfl, rfl, rfl⟩ := hz rfl
        obtain rfl : u4 = .slice none 0 0 := by
          rcases hfr with ⟨-, h⟩ | ⟨h, -⟩
          · exact h
          · cases h
        have c0 : wr.cell? ⟨g, 0, none⟩ = some (.int .i64 5) := d0
        rw [show ((0 : Nat) : Int) = 0 from rfl] at hltI ⊢
        have hbw : Below B w wr := hb1.trans (hbel.mono hB1)
        have hfa := funcAt_any g cap n sort name wr (by omega) hT (by omega) d1 d2 (fun W hW => HCS.out _ hx rfl W (hbw.trans (hW.mono (by omega))))
        have HBW := Lib.hid hbw
        have HLK := Lib.hid hlk
        clear hU hrow hbel hNw hx d0 d1 d2 hfr hb1 hz HX HF HB1 hbw hlk
        go_wp2_with fail
        refine hfa.mono ?_
        rintro e w2 ⟨a, kk, c, rfl, hb2⟩
        have HB2 := Lib.hid (HBW.out.trans (hb2.mono (by have := HBW.out.size; omega)))
        have hal := alloc_far' w2 (.cells #[.string name, .slice a kk c, .int .i64 sort] 98)
        have hbx := heap_alloc_new w2 (.cells #[.string name, .slice a kk c, .int .i64 sort] 98)
        have y0 := heap_cell hbx 0
        have y1 := heap_cell hbx 1
        have y2 := heap_cell hbx 2
        have hs2 := HB2.out.size
        have HB3 : Hid (Below B w (w2.alloc (.cells #[.string name, .slice a kk c, .int .i64 sort] 98))) := Lib.hid (HB2.out.trans (hal.mono (by omega)))
        clear hb2 hfa HB2 hal hbx HBW
        go_wp2
        generalize w2.alloc (.cells #[.string name, .slice a kk c, .int .i64 sort] 98) = w3 at *
        generalize w2.heap.size = S2 at *
        go_loop [9, 10] (fun b i => b = .bool false ∧ i = .int .i64 0) (fun _ _ => 0)
        case atStart => exact ⟨rfl, rfl⟩
        case round =>
          obtain ⟨rfl, rfl⟩ := hrel
          go_wp2_with (at_builtin; refine wpList_append_own _ rfl (.tmp 110) (.tmp 112) 96 rfl (w3.heap.size + 1) 98 i1 _ 3 48 Tryz.underlying96 ji jz0 jz1 jz2 rfl (by decide) _ 0 _ rfl (World.ownsRow_nil _ _ _ _) ⟨w3.heap.size, 0, none⟩ 1 1 [.string name, .slice a kk c, .int .i64 sort] rfl rfl (World.news_of_block (cs := #[.string name, .slice a kk c, .int .i64 sort]) (t := 98) (fr := (0, 0)) (heap_alloc_new w3 _)) (by simp [Value.oneCell']) (by unfold maxLen; omega) (by omega) (by simp) ?_)
          intro v' w4 hown' hgrow _
          have hb4 : Below w3.heap.size w3 w4 := (alloc_far' w3 _).grown hgrow (by simp) (fun k e => by cases e)
          obtain ⟨gf, cf, rfl, -, -, -⟩ := ownsRow_shape hown' (by omega)
          have HF4 : Hid (FRow V (.slice (some ⟨gf, 0, none⟩) (0 + 1) cf) 1 w4) := Lib.hid (.inr ⟨rfl, gf, cf, name, rfl, (hown'.lt gf rfl).2, (hown'.cellAt 0 (by simp)).trans rfl, HLK.out⟩)
          have HB4 := Lib.hid (HB3.out.trans (hb4.mono (by have := HB3.out.size; omega)))
          clear hown' hgrow hb4
          go_wp2
          go_roundw
          case rel => exact ⟨1, 1, [], w4, hlt, HF4.out, rfl, Nat.zero_le _, (fun p h => by cases h), World.ownsRow_nil _ _ _ _, HB4.out, Below.refl _ _, fun e => absurd e (by omega)⟩
          case measure => simp [intOf]; omega
      have c0 : wr.cell? ⟨g, k * 5, none⟩ = some (.int .i64 op) := d0
      clear hU hrow hbel hNw hx d0 d1 d2 hz hb1 hfr
      by_cases h4 : op = 4
      · subst h4
        have hlk := hnm.2 rfl
        have HLK := Lib.hid hlk
        clear hnm hlk
        go_wp2
        go_loopw [6, 7] (fun b j wr => ∃ (bb : Bool) (q : Nat), b = .bool bb ∧ j = .int .i64 q ∧ q ≤ U.length ∧ UV1 w1.heap.size g k 4 sort name w1 u3 U wr) (fun _ j _ => U.length - (intOf j).toNat)
        case atStart => exact ⟨false, 0, rfl, rfl, Nat.zero_le _, HX.out⟩
        case round =>
          clear HX
          obtain ⟨bb, q, rfl, rfl, hq, hX⟩ := hrel
          have HX := Lib.hid hX
          obtain ⟨gv0, cv0, hv0⟩ := ownsRow_len hX.row
          by_cases hql : q < U.length
          · obtain ⟨gv, cv, rfl, -, -, -⟩ := ownsRow_shape hX.row (by omega)
            obtain ⟨hn1, hn2⟩ := vrs_get U q U[q] (List.getElem?_eq_getElem hql)
            have e1 : _root_.Go.World.cell? wr ⟨gv, q * 2, none⟩ = _ := (hX.row.cellAt (q * 2) (by omega)).trans hn1
            have e2 : _root_.Go.World.cell? wr ⟨gv, q * 2 + 1, none⟩ = _ := (hX.row.cellAt (q * 2 + 1) (by omega)).trans hn2
            have hlu := HU.out U[q] (List.getElem_mem hql)
            have hc1 := hX.c1
            have hc2 := hX.c2
            generalize U[q] = pq at *
            obtain ⟨kq, sq⟩ := pq
            simp only at e1 e2 hlu
            obtain ⟨ul, hul⟩ : ∃ ul, U.length = ul := ⟨_, rfl⟩
            have hqI : (q : Int) < (ul : Int) := by omega
            clear hX hn1 hn2 hv0
            by_cases hkn : kq = name
            · subst hkn
              have hss : sq = sort := by rw [HLK.out] at hlu; exact (Option.some.inj hlu).symm
              subst hss
              clear hlu
              have hul' : ul ≤ n := by omega
              rw [hul] at hq HX ⊢
              have HUL := Lib.hid hul
              clear hul
              go_wp2
              go_quiet (fail)
              rename_i nq
              go_wp2
              go_quiet (fail)
              rename_i nq2
              go_wp2
              go_roundw
              case rel => exact ⟨true, q + 1, rfl, by go_num, by omega, HX.out.drewN _⟩
              case measure => simp [intOf]; omega
            · have hkf : (kq.toList == name.toList) = false := by rw [beq_eq_false_iff_ne]; exact fun e => hkn ((bytes_of e).trans (bytes_of rfl).symm)
              clear hlu
              have hul' : ul ≤ n := by omega
              rw [hul] at hq HX ⊢
              have HUL := Lib.hid hul
              clear hul
              go_wp2
              go_quiet (fail)
              rename_i nq
              go_wp2
              go_roundw
              case rel => exact ⟨bb, q + 1, rfl, by go_num, by omega, HX.out.drewN _⟩
              case measure => simp [intOf]; omega
          · subst hv0
            have hqe : (U.length : Int) ≤ (q : Int) := by omega
            cases bb
            · have HAA : Hid (∀ p ∈ U ++ [(name, sort)], lookA p.1 V = some p.2) := Lib.hid (fun p hp => by
                rcases List.mem_append.1 hp with hp | hp
                · exact HU.out p hp
                · rw [List.mem_singleton] at hp; subst hp; exact HLK.out)
              obtain ⟨ul, hul⟩ : ∃ ul, U.length = ul := ⟨_, rfl⟩
              rw [hul] at hq hql hqe HX hUk ⊢
              have HUL := Lib.hid hul
              clear hX hul
              go_wp2
              refine add_region [[], [], [], [1, 2], [1, 2, 3], [1, 2, 3, 4], [], [], [6, 7], [6, 7, 8], [6, 7, 8, 9], [1, 2, 3, 4, 5, 6, 7, 8, 9, 10], [1, 2, 3, 4, 5, 6, 7, 8, 9, 10, 11], [0, 1, 2, 3, 4, 5, 6, 7, 8, 9, 10, 11, 12], [0, 1, 2, 3, 4, 5, 6, 7, 8, 9, 10, 11, 12, 13]] (fun W => UV1 w1.heap.size g k 4 sort name w1 (.slice gv0 ul cv0) U W) (fun _ => True) ?_
              iterate 12
                apply a_con
                · intro x; go_simp; done
                · intro x W R hW hF hR
                  have hc1 := hW.c1
                  have hc2 := hW.c2
                  clear hF
                  unfold addAt
                  go_simp
                  simp only [addUpon]
                  exact hR _ (Below.refl _ _)
                simp only [Act.put, List.setIfInBounds_toArray, List.set_cons_zero, List.set_cons_succ]
              refine a_opq (fun u W => ∃ B, u = .slice (some ⟨B, 0, none⟩) 1 1 ∧ W.heap[B]? = some (.cells #[.string name, .int .i64 sort] 40 (0, 0))) (fun _ _ _ h hb => let ⟨B, h1, h2⟩ := h; ⟨B, h1, (hb.block _ (lt_of_heap h2)).trans h2⟩) ?_ ?_ ?_
              · intro x; go_simp; done
              · intro x W R hW hF hR
                clear hF
                unfold addAt
                go_simp
                simp only [addUpon]
                exact hR _ _ ⟨W.heap.size, rfl, heap_alloc_new W _⟩ (alloc_far' W _)
              simp only [Act.put, List.setIfInBounds_toArray, List.set_cons_zero, List.set_cons_succ, List.length_cons, List.length_nil, Nat.zero_add, Nat.reduceAdd]
              refine a_wrt (fun x W => UV1 w1.heap.size g k 4 sort name w1 (x 13) (U ++ [(name, sort)]) W) (fun _ _ _ h hb => h.far hb) (fun x x' w h hT => by have e := h 13 (.inl rfl); rw [e] at hT; exact hT) ?_ ?_ ?_
              · intro x; go_simp; done
              · intro x W R hW hF hD hR
                obtain ⟨B2, hx2, hB2⟩ := hF.1.2 rfl rfl rfl
                clear hF
                simp only [hx2]
                have hrw := hW.row
                rw [HUL.out] at hrw
                refine addAt_append (.tmp 56) (.tmp 68) 37 rfl w1.heap.size 40 i0 _ 2 24 Tryz.underlying37 hi hz0 hz1 hz2 rfl (by decide) (.slice gv0 ul cv0) ul (vrs U) rfl hrw ⟨B2, 0, none⟩ 1 1 [.string name, .int .i64 sort] rfl rfl (World.news_of_block (cs := #[.string name, .int .i64 sort]) (t := 40) (fr := (0, 0)) hB2) (by simp [Value.oneCell']) (by unfold maxLen; omega) (by omega) hW.hs ?_
                intro v' w' hrow hg
                refine hR _ _ ?_ trivial hg.size
                show UV1 w1.heap.size g k 4 sort name w1 (updX x 13 v' 13) (U ++ [(name, sort)]) w'
                rw [updX_self]
                refine hW.grow hg ?_
                rw [List.length_append, HUL.out, vrs_app]
                exact hrow
              simp only [Act.put, List.setIfInBounds_toArray, List.set_cons_zero, List.set_cons_succ, List.length_cons, List.length_nil, Nat.zero_add, Nat.reduceAdd]
              refine a_freX (fun x => x 14 = x 13) (fun x x' hx h => by rw [← hx 14 (.inl rfl), ← hx 13 (.inr (List.contains_iff_mem.1 rfl))]; exact h) ?_ ?_ ?_
              · intro x; go_simp; done
              · intro x W R hW hF hR
                clear hF hW
                unfold addAt
                go_simp
                simp only [addUpon]
                refine hR _ _ ?_ (Below.refl _ _)
                show updX x 14 _ 14 = updX x 14 _ 13
                rw [updX_self, updX_ne (i := 14) (j := 13) _ _ (by decide)]
              simp only [Act.put, List.setIfInBounds_toArray, List.set_cons_zero, List.set_cons_succ, List.length_cons, List.length_nil, Nat.zero_add, Nat.reduceAdd]
              refine a_nil (by kernel_rfl) (by kernel_rfl) (by kernel_rfl) (fun _ _ h hb => h.far hb) (fun _ _ _ _ => trivial) (fun _ _ => trivial) (HX.out.far (Below.refl _ _).drew) ?_
              intro x W hE hW hF hD
              clear hD
              have hY := hF.2.1.2 rfl
              have hx14 := hF.1.1
              simp only [AK.free] at hx14
              simp only [AK.fact] at hY
              clear hF hW
              simp only [hx14]
              generalize x 13 = v13 at *
              go_wp2
              go_roundw
              case rel => exact ⟨k + 1, nf, U ++ [(name, sort)], w1, by omega, HF.out, by go_num, by rw [List.length_append, HUL.out]; simp; omega, HAA.out, hY.row, HB1.out, hY.bel, fun e => absurd e (by omega)⟩
              case measure => simp [intOf]; omega
            · go_wp2
              go_roundw
              case rel => exact ⟨k + 1, nf, U, w1, by omega, HF.out, by go_num, by omega, HU.out, HX.out.row, HB1.out, HX.out.bel, fun e => absurd e (by omega)⟩
              case measure => simp [intOf]; omega
      · have h4f : (op == 4) = false := by simp [h4]
        have h5f : (op == 5) = false := by simp [hnm.1]
        have h5 := hnm.1
        clear hnm
        go_wp2
        go_roundw
        case rel => exact ⟨k + 1, nf, U, w1, by omega, HF.out, by go_num, by omega, HU.out, HX.out.row, HB1.out, HX.out.bel, fun e => absurd e (by omega)⟩
        case measure => simp [intOf]; omega
    · obtain ⟨av, cv, rfl⟩ := ownsRow_len hrow
      have HE : Hid (UE V B w w1.heap.size (.slice av U.length cv) U u4 nf wr) := Lib.hid ⟨hrow, hfr.far hbel, hb1.trans (hbel.mono hB1), hU, hbel.size⟩
      obtain ⟨ul, hul⟩ : ∃ ul, U.length = ul := ⟨_, rfl⟩
      rw [hul] at hUk HE ⊢
      have HUL := Lib.hid hul
      have hul2 : ul ≤ n := by omega
      obtain ⟨af, cf, hu4, hnf⟩ : ∃ af cf, u4 = .slice af nf cf ∧ nf ≤ 1 := by
        rcases hfr with ⟨rfl, h⟩ | ⟨rfl, gf, cf, nm, h, -⟩
        · exact ⟨_, _, h, Nat.zero_le _⟩
        · exact ⟨_, _, h, Nat.le_refl _⟩
      subst hu4
      clear hU hrow hbel hul HU HF hfr hb1 hz
      generalize w1.heap.size = B1 at *
      go_wp2
      go_loopw [11] (fun i wr => ∃ q : Nat, q ≤ ul ∧ i = .int .i64 q ∧ UE V B w B1 (.slice av ul cv) U (.slice af nf cf) nf wr) (fun i _ => ul - (intOf i).toNat)
      case atStart => exact ⟨0, Nat.zero_le _, rfl, HE.out⟩
      case round =>
        clear HE
        obtain ⟨q, hq, rfl, hE⟩ := hrel
        have HE := Lib.hid hE
        clear hE
        by_cases hql : q < ul
        · have hqlI : (q : Int) < (ul : Int) := by omega
          go_wp2
          go_loopw [12] (fun i wr => ∃ r : Nat, r ≤ nf ∧ i = .int .i64 r ∧ UE V B w B1 (.slice av ul cv) U (.slice af nf cf) nf wr) (fun i _ => nf - (intOf i).toNat)
          case atStart => exact ⟨0, Nat.zero_le _, rfl, HE.out⟩
          case round =>
            clear HE
            obtain ⟨r, hr, rfl, hE⟩ := hrel
            have HE := Lib.hid hE
            by_cases hrl : r < nf
            · obtain rfl : r = 0 := by omega
              obtain rfl : nf = 1 := by omega
              have hqU : q < U.length := by rw [HUL.out]; exact hql
              have hrow := hE.row
              rw [HUL.out] at hrow
              obtain ⟨gv, cv', hve, -, -, -⟩ := ownsRow_shape hrow (by omega)
              injection hve with e1 e2 e3
              subst e1
              subst e3
              have e1 : _root_.Go.World.cell? wr ⟨gv, q * 2, none⟩ = _ := (hrow.cellAt (q * 2) (by omega)).trans (vrs_get U q U[q] (List.getElem?_eq_getElem hqU)).1
              have hlu := hE.us U[q] (List.getElem_mem hqU)
              obtain ⟨gf, cf', nm, hfe, hgf, hcf, hlf⟩ : ∃ gf cf' nm, (.slice af 1 cf : Value) = .slice (some ⟨gf, 0, none⟩) 1 cf' ∧ gf < wr.heap.size ∧ wr.cell? ⟨gf, 0, none⟩ = some (.string nm) ∧ lookA nm V = none := by
                rcases hE.fr with ⟨h, -⟩ | ⟨-, h⟩
                · cases h
                · exact h
              injection hfe with f1 f2 f3
              subst f1
              subst f3
              generalize U[q] = pq at *
              obtain ⟨kq, sq⟩ := pq
              simp only at e1 hlu
              have hkf : (kq.toList == nm.toList) = false := by
                rw [beq_eq_false_iff_ne]
                intro e
                have e2 := (bytes_of e).trans (bytes_of rfl).symm
                rw [e2, hlf] at hlu
                cases hlu
              clear hE hrow hlu hlf
              rw [show ((0 : Nat) : Int) = 0 from rfl]
              go_wp2
              go_quiet (fail)
              rename_i nq
              go_wp2
              go_roundw
              case rel => exact ⟨1, Nat.le_refl _, rfl, HE.out.drewN _⟩
              case measure => simp [intOf]
            · have hrn : (nf : Int) ≤ (r : Int) := by omega
              clear hE
              go_wp2
              go_roundw
              case rel => exact ⟨q + 1, by omega, by go_num, HE.out⟩
              case measure => simp [intOf]; omega
        · have hqn : (ul : Int) ≤ (q : Int) := by omega
          go_wp2
          go_ret
          exact ⟨rfl, HE.out.bel⟩
end
end Go.Proofs.YthefknoicelhaaaGreatDoor.Se

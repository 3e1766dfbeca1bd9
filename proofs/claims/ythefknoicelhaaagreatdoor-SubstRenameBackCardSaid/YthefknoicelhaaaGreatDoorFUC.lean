/- Terms as lists of nodes; where the descendants of each node end. -/
import Derived.Test.YthefknoicelhaaaGreatDoorFST
import Derived.BigQuiet
import Derived.Deep.QuietTactic
namespace Go.Proofs.YthefknoicelhaaaGreatDoor.Se
open Go.RowKit

/-- a node: operator, sort, name, number, how many children -/
structure Nd where
  op : Int
  sort : Int
  name : ByteArray
  num : ByteArray
  kids : Int
def Nd.cells (x : Nd) : List Value := [.int .i64 x.op, .int .i64 x.sort, .string x.name, .string x.num, .int .i64 x.kids]
def Nd.val (x : Nd) : Value := .agg #[.int .i64 x.op, .int .i64 x.sort, .string x.name, .string x.num, .int .i64 x.kids]
def flatN (l : List Nd) : List Value := l.flatMap Nd.cells
def NodesAt (w : World) (g : Nat) (ts : List Nd) : Prop := ∀ (i : Nat) (x : Nd), ts[i]? = some x → ∀ j, j < 5 → w.cell? ⟨g, i * 5 + j, none⟩ = x.cells[j]?
theorem NodesAt.below {w w' : World} {B g : Nat} {ts : List Nd} (h : NodesAt w g ts) (hb : Below B w w') (hg : g < B) : NodesAt w' g ts :=
  fun i x hx j hj => (hb.cell (p := ⟨g, i * 5 + j, none⟩) hg).trans (h i x hx j hj)

set_option maxHeartbeats 400000 in
/-- the closure that 'check' hands over: the number of elements of item i -/
theorem kidsT (b g cap n i : Nat) (a : Int) (w : World) (hv : w.cell? ⟨b, 0, none⟩ = some (.slice (some ⟨g, 0, none⟩) n cap)) (hi : i < n) (hc : w.cell? ⟨g, i * 5 + 4, none⟩ = some (.int .i64 a)) :
    Calls Tryz.prog 99 #[.int .i64 i, .pointer (some ⟨b, 0, none⟩)] w fun e w' => e = .returned (.int .i64 a) ∧ w = w' := by
  go_enter Tryz.func99, Tryz.ntmps99
  go_wp2
  go_ret
  exact ⟨rfl, rfl⟩

set_option maxHeartbeats 2000000 in
set_option maxRecDepth 100000 in
theorem endsT (b g cap n : Nat) (ks : List Int) (w : World) (hn : n ≤ 1000000000) (hks : ks.length = n) (hb : b < w.heap.size) (hg : g < w.heap.size)
    (hv : n ≠ 0 → w.cell? ⟨b, 0, none⟩ = some (.slice (some ⟨g, 0, none⟩) n cap)) (hc : ∀ i (h : i < ks.length), w.cell? ⟨g, i * 5 + 4, none⟩ = some (.int .i64 ks[i])) :
    Calls Tryz.prog 98 #[.int .i64 n, .func (.func 99) #[] #[.pointer (some ⟨b, 0, none⟩)]] w (EndsPost w n ks) := by
  obtain ⟨i0, hi, hz0, hz1, hz2⟩ := info_parts infoInt
  have HC := Lib.hid hc
  have HV := Lib.hid hv
  clear hc hv
  go_enter Tryz.func98, Tryz.ntmps98
  go_wp2_with (refine wpList_make_full _ rfl (.tmp 10) (.tmp 10) 23 rfl w.heap.size 3 i0 (.int .i64 0) 1 Tryz.underlying23 hi hz0 hz1 .i64 .i64 n n n rfl rfl rfl rfl (by rw [hz2]; omega) (by unfold maxLen; omega) (Nat.le_refl _) ?_; intro w1 hown hgrow)
  have hbel : Below w.heap.size w w1 := (Below.refl _ _).grown hgrow (Nat.le_refl _) (fun k h => by cases h)
  have hown0 : Hid (w1.ownsRow w.heap.size 3 1 (.slice (some ⟨w.heap.size, 0, none⟩) n n) n (rowE n [])) := Lib.hid (by
    have e : (madeCells (Value.cells (.int .i64 0)) (n * 1)).toList = rowE n [] := made_zero n
    rwa [e] at hown)
  have HB0 := Lib.hid hbel
  clear hown hgrow hbel
  generalize hB : w.heap.size = B at *
  have HBe := Lib.hid hB
  clear hB
  go_loopw [7] (fun i wr => ∃ (j : Nat) (E : List Nat), j ≤ n ∧ i = .int .i64 ((j : Int) - 1) ∧ endsF n (ks.drop j) = some E ∧ wr.ownsRow B 3 1 (.slice (some ⟨B, 0, none⟩) n n) n (rowE j E) ∧ Below B w wr)
    (fun i _ => (intOf i + 1).toNat)
  case atStart => exact ⟨n, [], Nat.le_refl _, rfl, by rw [List.drop_of_length_le (by omega)]; rfl, hown0.out, HB0.out⟩
  case round =>
    clear hown0 HB0
    obtain ⟨j, E, hj, rfl, hE, hown, hbel⟩ := hrel
    have HE := Lib.hid hE
    have HO := Lib.hid hown
    have HB := Lib.hid hbel
    clear hE hown hbel
    cases j with
    | zero =>
      have HF : Hid (endsF n ks = some E) := Lib.hid (by have := HE.out; rwa [List.drop_zero] at this)
      go_wp2
      go_ret2
      exact EndsPost.some_of (by rw [HBe.out]; exact HB.out) HF.out (by rw [HBe.out]; have := HO.out; unfold rowE at this; simpa using this)
    | succ j =>
      have hji : ((j + 1 : Nat) : Int) - 1 = (j : Int) := by omega
      rw [hji]
      have hjk : j < ks.length := by omega
      have hkc : wr.cell? ⟨g, j * 5 + 4, none⟩ = some (.int .i64 ks[j]) := (HB.out.cell (p := ⟨g, j * 5 + 4, none⟩) hg).trans (HC.out j hjk)
      have hkv : wr.cell? ⟨b, 0, none⟩ = some (.slice (some ⟨g, 0, none⟩) n cap) := (HB.out.cell (p := ⟨b, 0, none⟩) hb).trans (HV.out (by omega))
      have hdrop : endsF n (ks.drop j) = endsF n (ks[j] :: ks.drop (j + 1)) := by rw [List.drop_eq_getElem_cons hjk]
      have HDr := Lib.hid hdrop
      clear hdrop hji
      generalize hkk : ks[j] = kk at *
      have HKK := Lib.hid hkk
      clear hkk
      have hEl := endsF_bd n (ks.drop (j + 1)) E (by rw [List.length_drop]; omega) HE.out
      rw [List.length_drop] at hEl
      have hlen : E.length = n - (j + 1) := by rw [hEl.1]; omega
      have hEb : Hid (∀ t (h : t < E.length), j + 1 + t < E[t] ∧ E[t] ≤ n) := Lib.hid (fun t h => by have := hEl.2 t h; omega)
      have hll : n - (List.drop (j + 1) ks).length = j + 1 := by rw [List.length_drop]; omega
      have HEq : Hid (endsF n (ks.drop j) = if kk < 0 ∨ (n : Int) < kk then none else match stepsE n (j + 1) E kk.toNat (j + 1) with | none => none | some e => some (e :: E)) := Lib.hid (by
        rw [HDr.out]; simp only [endsF]; rw [HE.out, hll]; rfl)
      clear hEl hll HDr
      by_cases hbad : kk < 0 ∨ (n : Int) < kk
      · have HN : Hid (endsF n (ks.drop j) = none) := Lib.hid (by rw [HEq.out, if_pos hbad])
        have HF : Hid (endsF n ks = none) := Lib.hid (endsF_none n ks j HN.out)
        by_cases hneg : kk < 0
        · clear hbad
          go_wp2_with (go_at_call 99; refine (kidsT b g cap n j kk _ hkv (by omega) hkc).mono ?_; rintro e w2 ⟨rfl, rfl⟩)
          go_ret2
          exact EndsPost.none_of (by rw [HBe.out]; exact HB.out) HF.out
        · have hbig : (n : Int) < kk := by omega
          clear hbad
          go_wp2_with (go_at_call 99; refine (kidsT b g cap n j kk _ hkv (by omega) hkc).mono ?_; rintro e w2 ⟨rfl, rfl⟩)
          go_ret2
          exact EndsPost.none_of (by rw [HBe.out]; exact HB.out) HF.out
      · have hnneg : ¬ kk < 0 := by omega
        have hnbig : ¬ (n : Int) < kk := by omega
        have HEq2 : Hid (endsF n (ks.drop j) = match stepsE n (j + 1) E kk.toNat (j + 1) with | none => none | some e => some (e :: E)) := Lib.hid (by rw [HEq.out, if_neg hbad])
        clear hbad HEq
        go_wp2_with (go_at_call 99; refine (kidsT b g cap n j kk _ hkv (by omega) hkc).mono ?_; rintro e w2 ⟨rfl, rfl⟩)
        go_loop [8, 9] (fun k e => ∃ (q x : Nat), k = .int .i64 q ∧ e = .int .i64 x ∧ (q : Int) ≤ kk ∧ j + 1 ≤ x ∧ x ≤ n ∧ stepsE n (j + 1) E q x = stepsE n (j + 1) E kk.toNat (j + 1)) (fun k _ => (intOf k).toNat)
        case atStart => exact ⟨kk.toNat, j + 1, by rw [Int.toNat_of_nonneg (by omega)], rfl, by omega, Nat.le_refl _, hj, rfl⟩
        case round =>
          obtain ⟨q, x, rfl, rfl, hqk, hx1, hx2, hst⟩ := hrel
          have HS := Lib.hid hst
          clear hst
          cases q with
          | zero =>
            have HX : Hid (endsF n (ks.drop j) = some (x :: E)) := Lib.hid (by rw [HEq2.out, ← HS.out]; rfl)
            have hof : ∃ u, wr.cell? ⟨B, j, none⟩ = some u := ⟨.int .i64 0, by
              rw [HO.out.cellAt j (by omega)]; unfold rowE; rw [List.getElem?_append_left (by simp)]; simp⟩
            obtain ⟨u, hu⟩ := hof
            have hfz := HO.out.frozenAt j
            have hst2 := Lib.hid (HO.out.stored j (.int .i64 x))
            have hj0 : 0 ≤ (j : Int) ∧ (j : Int) < (n : Int) := by omega
            go_wp2
            go_roundw
            case rel =>
              exact ⟨j, x :: E, by omega, rfl, HX.out, by have := hst2.out.1; rwa [rowE_set] at this, HB.out.setCell (Nat.le_refl B) _⟩
            case measure => simp [intOf]
          | succ q =>
            have hq1 : ((q + 1 : Nat) : Int) = (q : Int) + 1 := by omega
            rw [hq1]
            clear hq1
            by_cases hxn : n ≤ x
            · have HF : Hid (endsF n ks = none) := Lib.hid (endsF_none n ks j (by rw [HEq2.out, ← HS.out]; simp only [stepsE]; rw [if_pos hxn]))
              go_wp2
              go_ret2
              exact EndsPost.none_of (by rw [HBe.out]; exact HB.out) HF.out
            · have hxl : x - (j + 1) < E.length := by omega
              have hcx : wr.cell? ⟨B, x, none⟩ = some (.int .i64 E[x - (j + 1)]) := by
                rw [HO.out.cellAt x (by omega)]
                have := rowE_get (j + 1) (x - (j + 1)) E hxl
                rwa [show j + 1 + (x - (j + 1)) = x by omega] at this
              have hbd := hEb.out (x - (j + 1)) hxl
              have HS2 : Hid (stepsE n (j + 1) E q E[x - (j + 1)] = stepsE n (j + 1) E kk.toNat (j + 1)) := Lib.hid (by
                rw [← HS.out]; simp only [stepsE]; rw [if_neg hxn, List.getD_eq_getElem?_getD, List.getElem?_eq_getElem hxl, Option.getD_some])
              generalize E[x - (j + 1)] = y at *
              go_wp2
              go_round
              case rel => exact ⟨q, y, by go_num, rfl, by omega, by omega, hbd.2, HS2.out⟩
              case measure => simp [intOf]



end Go.Proofs.YthefknoicelhaaaGreatDoor.Se
/- Operators: how many children each takes, which sort each has. -/
namespace Go.Proofs.YthefknoicelhaaaGreatDoor.Se
open Go.RowKit

/-- the least and the greatest number of children -/
def arF (op : Int) : Int × Int :=
  if op = 1 ∨ op = 2 ∨ op = 3 ∨ op = 4 then (0, 0) else if op = 5 then (1, 40) else if op = 6 ∨ op = 16 ∨ op = 17 ∨ op = 20 then (1, 1)
  else if op = 7 ∨ op = 8 then (0, 2147483648) else if op = 14 then (1, 2147483648) else if op = 10 ∨ op = 19 then (3, 3) else (2, 2)
def allF (l : List Int) (s : Int) : Bool := l.all (· == s)
/-- the sort of a node over children of these sorts, and whether they are permitted -/
def rsF (op sort : Int) (l : List Int) : Int × Bool :=
  if op = 1 ∨ op = 2 then (1, true) else if op = 3 ∨ op = 4 ∨ op = 5 then (sort, true)
  else if op = 6 ∨ op = 7 ∨ op = 8 ∨ op = 9 then (1, allF l 1)
  else if op = 10 then (l.getD 1 0, l.getD 0 0 == 1 && l.getD 1 0 == l.getD 2 0)
  else if op = 11 then (1, l.getD 0 0 == l.getD 1 0)
  else if op = 12 ∨ op = 13 then (1, allF l 2 || allF l 3)
  else if op = 14 ∨ op = 15 then (l.getD 0 0, allF l 2 || allF l 3)
  else if op = 16 ∨ op = 17 then (2, l.getD 0 0 == 2)
  else if op = 18 then (2, l.getD 0 0 == 4 && l.getD 1 0 == 2)
  else if op = 19 then (4, l.getD 0 0 == 4 && (l.getD 1 0 == 2 && l.getD 2 0 == 2))
  else (4, l.getD 0 0 == 2)
theorem op_cases (op : Int) : (op = 1 ∨ op = 2 ∨ op = 3 ∨ op = 4 ∨ op = 5 ∨ op = 6 ∨ op = 7 ∨ op = 8 ∨ op = 9 ∨ op = 10 ∨ op = 11 ∨ op = 12 ∨ op = 13 ∨ op = 14 ∨ op = 15 ∨ op = 16 ∨ op = 17 ∨ op = 18 ∨ op = 19 ∨ op = 20) ∨ ((¬ op = 1 ∧ ¬ op = 2 ∧ ¬ op = 3 ∧ ¬ op = 4 ∧ ¬ op = 5 ∧ ¬ op = 6 ∧ ¬ op = 7 ∧ ¬ op = 8 ∧ ¬ op = 9 ∧ ¬ op = 10 ∧ ¬ op = 11 ∧ ¬ op = 12 ∧ ¬ op = 13 ∧ ¬ op = 14 ∧ ¬ op = 15 ∧ ¬ op = 16 ∧ ¬ op = 17 ∧ ¬ op = 18 ∧ ¬ op = 19 ∧ ¬ op = 20)) := by omega
section
set_option maxHeartbeats 4000000
set_option maxRecDepth 100000
theorem arity_any (op : Int) (w : World) : Calls Tryz.prog 100 #[.int .i64 op] w fun e w' => e = .returned (.tuple #[.int .i64 (arF op).1, .int .i64 (arF op).2]) ∧ w' = w := by
  rcases op_cases op with (rfl | rfl | rfl | rfl | rfl | rfl | rfl | rfl | rfl | rfl | rfl | rfl | rfl | rfl | rfl | rfl | rfl | rfl | rfl | rfl) | h
  · go_enter Tryz.func100, Tryz.ntmps100
    go_wp2
    go_ret2
    exact ⟨rfl, rfl⟩
  · go_enter Tryz.func100, Tryz.ntmps100
    go_wp2
    go_ret2
    exact ⟨rfl, rfl⟩
  · go_enter Tryz.func100, Tryz.ntmps100
    go_wp2
    go_ret2
    exact ⟨rfl, rfl⟩
  · go_enter Tryz.func100, Tryz.ntmps100
    go_wp2
    go_ret2
    exact ⟨rfl, rfl⟩
  · go_enter Tryz.func100, Tryz.ntmps100
    go_wp2
    go_ret2
    exact ⟨rfl, rfl⟩
  · go_enter Tryz.func100, Tryz.ntmps100
    go_wp2
    go_ret2
    exact ⟨rfl, rfl⟩
  · go_enter Tryz.func100, Tryz.ntmps100
    go_wp2
    go_ret2
    exact ⟨rfl, rfl⟩
  · go_enter Tryz.func100, Tryz.ntmps100
    go_wp2
    go_ret2
    exact ⟨rfl, rfl⟩
  · go_enter Tryz.func100, Tryz.ntmps100
    go_wp2
    go_ret2
    exact ⟨rfl, rfl⟩
  · go_enter Tryz.func100, Tryz.ntmps100
    go_wp2
    go_ret2
    exact ⟨rfl, rfl⟩
  · go_enter Tryz.func100, Tryz.ntmps100
    go_wp2
    go_ret2
    exact ⟨rfl, rfl⟩
  · go_enter Tryz.func100, Tryz.ntmps100
    go_wp2
    go_ret2
    exact ⟨rfl, rfl⟩
  · go_enter Tryz.func100, Tryz.ntmps100
    go_wp2
    go_ret2
    exact ⟨rfl, rfl⟩
  · go_enter Tryz.func100, Tryz.ntmps100
    go_wp2
    go_ret2
    exact ⟨rfl, rfl⟩
  · go_enter Tryz.func100, Tryz.ntmps100
    go_wp2
    go_ret2
    exact ⟨rfl, rfl⟩
  · go_enter Tryz.func100, Tryz.ntmps100
    go_wp2
    go_ret2
    exact ⟨rfl, rfl⟩
  · go_enter Tryz.func100, Tryz.ntmps100
    go_wp2
    go_ret2
    exact ⟨rfl, rfl⟩
  · go_enter Tryz.func100, Tryz.ntmps100
    go_wp2
    go_ret2
    exact ⟨rfl, rfl⟩
  · go_enter Tryz.func100, Tryz.ntmps100
    go_wp2
    go_ret2
    exact ⟨rfl, rfl⟩
  · go_enter Tryz.func100, Tryz.ntmps100
    go_wp2
    go_ret2
    exact ⟨rfl, rfl⟩
  · have e : arF op = (2, 2) := by unfold arF; simp [h]
    have HE := Lib.hid e
    clear e
    obtain ⟨h1, h2, h3, h4, h5, h6, h7, h8, h9, h10, h11, h12, h13, h14, h15, h16, h17, h18, h19, h20⟩ := h
    have g1 : (op == 1) = false := by simp [h1]
    have g2 : (op == 2) = false := by simp [h2]
    have g3 : (op == 3) = false := by simp [h3]
    have g4 : (op == 4) = false := by simp [h4]
    have g5 : (op == 5) = false := by simp [h5]
    have g6 : (op == 6) = false := by simp [h6]
    have g7 : (op == 7) = false := by simp [h7]
    have g8 : (op == 8) = false := by simp [h8]
    have g9 : (op == 9) = false := by simp [h9]
    have g10 : (op == 10) = false := by simp [h10]
    have g11 : (op == 11) = false := by simp [h11]
    have g12 : (op == 12) = false := by simp [h12]
    have g13 : (op == 13) = false := by simp [h13]
    have g14 : (op == 14) = false := by simp [h14]
    have g15 : (op == 15) = false := by simp [h15]
    have g16 : (op == 16) = false := by simp [h16]
    have g17 : (op == 17) = false := by simp [h17]
    have g18 : (op == 18) = false := by simp [h18]
    have g19 : (op == 19) = false := by simp [h19]
    have g20 : (op == 20) = false := by simp [h20]
    clear h1 h2 h3 h4 h5 h6 h7 h8 h9 h10 h11 h12 h13 h14 h15 h16 h17 h18 h19 h20
    go_enter Tryz.func100, Tryz.ntmps100
    go_wp2
    go_ret2
    exact ⟨by rw [HE.out]; rfl, rfl⟩
theorem isSort_any (s : Int) (w : World) : Calls Tryz.prog 103 #[.int .i64 s] w fun e w' => e = .returned (.bool (decide (1 ≤ s) && decide (s ≤ 4))) ∧ w' = w := by
  by_cases h : 1 ≤ s
  · rw [decide_eq_true h, Bool.true_and]
    go_enter Tryz.func103, Tryz.ntmps103
    go_wp2
    go_ret
    exact ⟨rfl, rfl⟩
  · rw [decide_eq_false h, Bool.false_and]
    go_enter Tryz.func103, Tryz.ntmps103
    go_wp2
    go_ret
    exact ⟨rfl, rfl⟩
end
end Go.Proofs.YthefknoicelhaaaGreatDoor.Se
/- The sort of a node. -/
namespace Go.Proofs.YthefknoicelhaaaGreatDoor.Se
open Go.RowKit

/-- a row of integers at the head of a block -/
structure RowI (w : World) (ao : Option Addr) (g : Nat) (l : List Int) : Prop where
  at0 : l.length ≠ 0 → ao = some ⟨g, 0, none⟩
  lt : g < w.heap.size
  few : l.length ≤ 1000000
  cell : ∀ t (h : t < l.length), w.cell? ⟨g, t, none⟩ = some (.int .i64 l[t])
theorem RowI.far {w w' : World} {ao : Option Addr} {g : Nat} {l : List Int} (h : RowI w ao g l) (hb : Below w.heap.size w w') : RowI w' ao g l :=
  ⟨h.at0, Nat.lt_of_lt_of_le h.lt hb.size, h.few, fun t ht => (hb.cell (p := ⟨g, t, none⟩) h.lt).trans (h.cell t ht)⟩

theorem RowI.get {w : World} {ao : Option Addr} {g : Nat} {l : List Int} (h : RowI w ao g l) {t : Nat} (ht : t < l.length) : w.cell? ⟨g, t, none⟩ = some (.int .i64 (l.getD t 0)) := by
  rw [h.cell t ht, List.getD_eq_getElem?_getD, List.getElem?_eq_getElem ht]; rfl
theorem RowI.drewN {w : World} {ao : Option Addr} {g : Nat} {l : List Int} (h : RowI w ao g l) (n : Nat) : RowI (w.drewN n) ao g l := ⟨h.at0, h.lt, h.few, h.cell⟩
theorem below_draws {b : Nat} {w w' : World} (h : Below b w w') (n : Nat) : Below b w (w'.drewN n) := below_drewN h n
section
set_option maxHeartbeats 4000000
set_option maxRecDepth 100000
theorem differs_any (x s : Int) (b : Nat) (w : World) (h : w.cell? ⟨b, 0, none⟩ = some (.int .i64 s)) :
    Calls Tryz.prog 107 #[.int .i64 x, .pointer (some ⟨b, 0, none⟩)] w fun e w' => e = .returned (.bool (!(x == s))) ∧ w' = w := by
  go_enter Tryz.func107, Tryz.ntmps107
  go_wp2
  go_ret
  exact ⟨rfl, rfl⟩
/-- the first index at which the row differs from s, or -1 -/
theorem indexFunc_any (ao : Option Addr) (g cap : Nat) (l : List Int) (s : Int) (b : Nat) (w : World) (hr : RowI w ao g l) (h : w.cell? ⟨b, 0, none⟩ = some (.int .i64 s)) :
    Calls Tryz.prog 119 #[.slice ao l.length cap, .func (.func 107) #[] #[.pointer (some ⟨b, 0, none⟩)]] w fun e w' => ∃ k : Int, e = .returned (.int .i64 k) ∧ w' = w ∧ (k < 0 ↔ allF l s = true) := by
  have HR := Lib.hid hr
  clear hr
  go_enter Tryz.func119, Tryz.ntmps119
  go_wp2
  go_loop [8] (fun i => ∃ k : Nat, k ≤ l.length ∧ i = .int .i64 k ∧ allF (l.take k) s = true) (fun i => l.length - (intOf i).toNat)
  case atStart => exact ⟨0, Nat.zero_le _, rfl, rfl⟩
  case round =>
    obtain ⟨k, hk, rfl, ha⟩ := hrel
    have HA := Lib.hid ha
    have hf := HR.out.few
    clear ha
    by_cases hlt : k < l.length
    · have hao := HR.out.at0 (by omega)
      subst hao
      have hc := HR.out.cell k hlt
      by_cases hx : l[k] = s
      · have hxe : (!(l[k] == s)) = false := by simp [hx]
        have HN : Hid (allF (l.take (k + 1)) s = true) := Lib.hid (by unfold allF; rw [List.take_succ_eq_append_getElem hlt, List.all_append]; have := HA.out; unfold allF at this; rw [this]; simp [hx])
        clear hx
        generalize l[k] = y at *
        have hd := differs_any y s b w h
        rw [hxe] at hd
        go_wp2_with (go_at_call 107; refine hd.mono ?_; rintro e w1 ⟨rfl, rfl⟩)
        go_round
        case rel => exact ⟨k + 1, by omega, by go_num, HN.out⟩
        case measure => simp [intOf]; omega
      · have hxe : (!(l[k] == s)) = true := by simp [hx]
        have HN : Hid (allF l s = false) := Lib.hid (by unfold allF; rw [List.all_eq_false]; exact ⟨l[k], List.getElem_mem hlt, by simp [hx]⟩)
        clear hx
        generalize l[k] = y at *
        have hd := differs_any y s b w h
        rw [hxe] at hd
        go_wp2_with (go_at_call 107; refine hd.mono ?_; rintro e w1 ⟨rfl, rfl⟩)
        go_ret
        exact ⟨k, rfl, rfl, by rw [HN.out]; constructor <;> intro h <;> first | omega | cases h⟩
    · have HN : Hid (allF l s = true) := Lib.hid (by have := HA.out; rwa [List.take_of_length_le (by omega)] at this)
      go_wp2
      go_ret
      exact ⟨-1, rfl, rfl, by rw [HN.out]; simp⟩
theorem containsFunc_any (ao : Option Addr) (g cap : Nat) (l : List Int) (s : Int) (b : Nat) (w : World) (hr : RowI w ao g l) (h : w.cell? ⟨b, 0, none⟩ = some (.int .i64 s)) :
    Calls Tryz.prog 106 #[.slice ao l.length cap, .func (.func 107) #[] #[.pointer (some ⟨b, 0, none⟩)]] w fun e w' => e = .returned (.bool (!allF l s)) ∧ w' = w := by
  have hi := indexFunc_any ao g cap l s b w hr h
  clear hr h
  go_enter Tryz.func106, Tryz.ntmps106
  go_wp2_with fail
  refine hi.mono ?_
  rintro e w1 ⟨k, rfl, rfl, hk⟩
  by_cases hn : k < 0
  · have HF := Lib.hid (hk.1 hn)
    clear hk
    go_wp2
    go_ret
    exact ⟨ret_bool (by rw [HF.out, decide_eq_false (by omega)]; rfl), rfl⟩
  · have HF : Hid (allF l s = false) := Lib.hid (Bool.eq_false_iff.2 fun e => hn (hk.2 e))
    clear hk
    go_wp2
    go_ret
    exact ⟨ret_bool (by rw [HF.out]; rfl), rfl⟩
theorem all_any (ao : Option Addr) (g cap : Nat) (l : List Int) (s : Int) (b : Nat) (w : World) (hr : RowI w ao g l) (h : w.cell? ⟨b, 0, none⟩ = some (.slice ao l.length cap)) (hb : b < w.heap.size) :
    Calls Tryz.prog 105 #[.int .i64 s, .pointer (some ⟨b, 0, none⟩)] w fun e w' => e = .returned (.bool (allF l s)) ∧ Below w.heap.size w w' := by
  have HR := Lib.hid hr
  have hbw : Below w.heap.size w (w.alloc (.cells #[.int .i64 s] 3)) := (Below.refl _ _).alloc (Nat.le_refl _) _
  have hr1 := hr.far hbw
  have h1 := (hbw.cell (p := ⟨b, 0, none⟩) hb).trans h
  have hs : (w.alloc (.cells #[.int .i64 s] 3)).cell? ⟨w.heap.size, 0, none⟩ = some (.int .i64 s) := by rw [World.cell?_alloc_at _ _ _ _ rfl]; rfl
  have HB := Lib.hid hbw
  clear hbw hr
  go_enter Tryz.func105, Tryz.ntmps105
  go_wp2_with fail
  generalize w.alloc (.cells #[.int .i64 s] 3) = w1 at *
  refine (containsFunc_any ao g cap l s w.heap.size w1 hr1 hs).mono ?_
  rintro e w2 ⟨rfl, rfl⟩
  go_wp2
  go_ret
  exact ⟨rfl, HB.out⟩
end
end Go.Proofs.YthefknoicelhaaaGreatDoor.Se

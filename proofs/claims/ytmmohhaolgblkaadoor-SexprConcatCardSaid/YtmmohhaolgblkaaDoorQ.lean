/- 'Ends' over the items of a list: where each item's descendants end. -/
import Derived.Test.YtmmohhaolgblkaaDoorP
namespace Go.Proofs.YtmmohhaolgblkaaDoor
open Go.RowKit

set_option maxHeartbeats 400000 in
/-- the closure that 'check' hands over: the number of elements of item i -/
theorem kids_any (b g cap n i : Nat) (a : Int) (w : World) (hv : w.cell? ⟨b, 0, none⟩ = some (.slice (some ⟨g, 0, none⟩) n cap)) (hi : i < n) (hc : w.cell? ⟨g, i * 4 + 2, none⟩ = some (.int .i64 a)) :
    Calls Tryd.prog 47 #[.int .i64 i, .pointer (some ⟨b, 0, none⟩)] w fun e w' => e = .returned (.int .i64 a) ∧ w = w' := by
  go_enter Tryd.func47, Tryd.ntmps47
  go_wp2
  go_ret
  exact ⟨rfl, rfl⟩

/-- k steps along the ends, from e: nothing if the list is too short -/
def stepsE (n base : Nat) (E : List Nat) : Nat → Nat → Option Nat
  | 0, e => some e
  | k + 1, e => if n ≤ e then none else stepsE n base E k (E.getD (e - base) 0)
/-- the ends of the items from index n - ks.length on -/
def endsF (n : Nat) : List Int → Option (List Nat)
  | [] => some []
  | k :: ks => match endsF n ks with
    | none => none
    | some E => if k < 0 ∨ (n : Int) < k then none else
      match stepsE n (n - ks.length) E k.toNat (n - ks.length) with
      | none => none
      | some e => some (e :: E)

theorem stepsE_bd (n base : Nat) (E : List Nat) (hE : ∀ t (h : t < E.length), base + t < E[t] ∧ E[t] ≤ n) (hl : base + E.length = n) : ∀ (k e e' : Nat), base ≤ e → e ≤ n → stepsE n base E k e = some e' → e ≤ e' ∧ e' ≤ n := by
  intro k
  induction k with
  | zero => intro e e' h1 h2 h; simp only [stepsE] at h; cases h; exact ⟨Nat.le_refl _, h2⟩
  | succ k ih =>
    intro e e' h1 h2 h
    simp only [stepsE] at h
    split at h
    · cases h
    · have hlt : e - base < E.length := by omega
      rw [List.getD_eq_getElem?_getD, List.getElem?_eq_getElem hlt, Option.getD_some] at h
      have hb := hE (e - base) hlt
      have := ih _ e' (by omega) hb.2 h
      omega
theorem endsF_bd (n : Nat) : ∀ (ks : List Int) (E : List Nat), ks.length ≤ n → endsF n ks = some E → E.length = ks.length ∧ ∀ t (h : t < E.length), n - ks.length + t < E[t] ∧ E[t] ≤ n := by
  intro ks
  induction ks with
  | nil => intro E _ h; simp only [endsF] at h; cases h; exact ⟨rfl, by intro t h; simp at h⟩
  | cons k ks ih =>
    intro E hl h
    simp only [List.length_cons] at hl
    simp only [endsF] at h
    cases e : endsF n ks with
    | none => rw [e] at h; cases h
    | some E' =>
      rw [e] at h
      obtain ⟨h1, h2⟩ := ih E' (by omega) e
      simp only at h
      split at h
      · cases h
      · cases e2 : stepsE n (n - ks.length) E' k.toNat (n - ks.length) with
        | none => rw [e2] at h; cases h
        | some x =>
          rw [e2] at h; cases h
          have hb := stepsE_bd n (n - ks.length) E' h2 (by omega) k.toNat (n - ks.length) x (Nat.le_refl _) (by omega) e2
          refine ⟨by simp [h1], ?_⟩
          intro t ht
          cases t with
          | zero => simp only [List.length_cons, List.getElem_cons_zero]; omega
          | succ t =>
            simp only [List.length_cons, List.getElem_cons_succ]
            have := h2 t (by simp at ht; omega)
            omega

/-- the cells of the row as it is filled from its end -/
def rowE (j : Nat) (E : List Nat) : List Value := List.replicate j (.int .i64 0) ++ E.map fun n : Nat => Value.int .i64 n
theorem rowE_set (j e : Nat) (E : List Nat) : (rowE (j + 1) E).set j (.int .i64 e) = rowE j (e :: E) := by
  unfold rowE
  rw [List.replicate_succ', List.append_assoc, List.set_append_right _ _ (by simp)]
  simp
theorem rowE_get (j t : Nat) (E : List Nat) (h : t < E.length) : (rowE j E)[j + t]? = some (.int .i64 E[t]) := by
  unfold rowE
  rw [List.getElem?_append_right (by simp)]
  simp [h]

def EndsPost (w : World) (n : Nat) (ks : List Int) (e : Ending) (w' : World) : Prop :=
  Below w.heap.size w w' ∧ match endsF n ks with
    | some E => ∃ v, e = .returned (.tuple #[v, .bool true]) ∧ w'.ownsRow w.heap.size 3 1 v n (E.map fun n : Nat => Value.int .i64 n)
    | none => e = .returned (.tuple #[.slice none 0 0, .bool false])

theorem EndsPost.none_of {w w' : World} {n : Nat} {ks : List Int} (hb : Below w.heap.size w w') (h : endsF n ks = none) : EndsPost w n ks (.returned (.tuple #[.slice none 0 0, .bool false])) w' := by
  unfold EndsPost; rw [h]; exact ⟨hb, rfl⟩
theorem EndsPost.some_of {w w' : World} {n : Nat} {ks : List Int} {E : List Nat} {v : Value} (hb : Below w.heap.size w w') (h : endsF n ks = some E) (ho : w'.ownsRow w.heap.size 3 1 v n (E.map fun n : Nat => Value.int .i64 n)) : EndsPost w n ks (.returned (.tuple #[v, .bool true])) w' := by
  unfold EndsPost; rw [h]; exact ⟨hb, v, rfl, ho⟩
theorem endsF_none (n : Nat) (ks : List Int) : ∀ j, endsF n (ks.drop j) = none → endsF n ks = none := by
  intro j
  induction j generalizing ks with
  | zero => intro h; rwa [List.drop_zero] at h
  | succ j ih =>
    intro h
    cases ks with
    | nil => simpa using h
    | cons a r =>
      rw [List.drop_succ_cons] at h
      have := ih r h
      simp only [endsF]; rw [this]
theorem made_zero (n : Nat) : (madeCells (Value.cells (.int .i64 0)) (n * 1)).toList = rowE n [] := by
  unfold rowE
  rw [List.map_nil, List.append_nil, List.eq_replicate_iff]
  refine ⟨by simp [madeCells], fun x hx => ?_⟩
  simp only [madeCells, Value.cells, Array.toList_map, List.mem_map] at hx
  obtain ⟨a, _, rfl⟩ := hx
  simp [Nat.mod_one]
set_option maxHeartbeats 2000000 in
set_option maxRecDepth 100000 in
theorem ends_any (b g cap n : Nat) (ks : List Int) (w : World) (hn : n ≤ 1000000000) (hks : ks.length = n) (hb : b < w.heap.size) (hg : g < w.heap.size)
    (hv : n ≠ 0 → w.cell? ⟨b, 0, none⟩ = some (.slice (some ⟨g, 0, none⟩) n cap)) (hc : ∀ i (h : i < ks.length), w.cell? ⟨g, i * 4 + 2, none⟩ = some (.int .i64 ks[i])) :
    Calls Tryd.prog 46 #[.int .i64 n, .func (.func 47) #[] #[.pointer (some ⟨b, 0, none⟩)]] w (EndsPost w n ks) := by
  obtain ⟨i0, hi, hz0, hz1, hz2⟩ := info_parts infoInt
  have HC := Lib.hid hc
  have HV := Lib.hid hv
  clear hc hv
  go_enter Tryd.func46, Tryd.ntmps46
  go_wp2_with (refine wpList_make_full _ rfl (.tmp 10) (.tmp 10) 24 rfl w.heap.size 3 i0 (.int .i64 0) 1 Tryd.underlying24 hi hz0 hz1 .i64 .i64 n n n rfl rfl rfl rfl (by rw [hz2]; omega) (by unfold maxLen; omega) (Nat.le_refl _) ?_; intro w1 hown hgrow)
  have hbel : Below w.heap.size w w1 := (Below.refl _ _).grown hgrow (Nat.le_refl _) (fun k h => by cases h)
  have hown0 : Hid (w1.ownsRow w.heap.size 3 1 (.slice (some ⟨w.heap.size, 0, none⟩) n n) n (rowE n [])) := Lib.hid (by
    have e : (madeCells (Value.cells (.int .i64 0)) (n * 1)).toList = rowE n [] := made_zero n
    rwa [e] at hown)
  have HB0 := Lib.hid hbel
  clear hown hgrow hbel
  generalize hB : w.heap.size = B at *
  have HBe := Lib.hid hB
  clear hB
  go_loopw [7] (fun i wr => ∃ (j : Nat) (E : List Nat), j ≤ n ∧ i = .int .i64 ((j : Int) - 1) ∧ endsF n (ks.drop j) = some E ∧ wr.ownsRow B 3 1 (.slice (some ⟨B, 0, none⟩) n n) n (rowE j E) ∧ Below B w wr)
    (fun i _ => (intOf i + 1).toNat)
  case atStart => exact ⟨n, [], Nat.le_refl _, rfl, by rw [List.drop_of_length_le (by omega)]; rfl, hown0.out, HB0.out⟩
  case round =>
    clear hown0 HB0
    obtain ⟨j, E, hj, rfl, hE, hown, hbel⟩ := hrel
    have HE := Lib.hid hE
    have HO := Lib.hid hown
    have HB := Lib.hid hbel
    clear hE hown hbel
    cases j with
    | zero =>
      have HF : Hid (endsF n ks = some E) := Lib.hid (by have := HE.out; rwa [List.drop_zero] at this)
      go_wp2
      go_ret2
      exact EndsPost.some_of (by rw [HBe.out]; exact HB.out) HF.out (by rw [HBe.out]; have := HO.out; unfold rowE at this; simpa using this)
    | succ j =>
      have hji : ((j + 1 : Nat) : Int) - 1 = (j : Int) := by omega
      rw [hji]
      have hjk : j < ks.length := by omega
      have hkc : wr.cell? ⟨g, j * 4 + 2, none⟩ = some (.int .i64 ks[j]) := (HB.out.cell (p := ⟨g, j * 4 + 2, none⟩) hg).trans (HC.out j hjk)
      have hkv : wr.cell? ⟨b, 0, none⟩ = some (.slice (some ⟨g, 0, none⟩) n cap) := (HB.out.cell (p := ⟨b, 0, none⟩) hb).trans (HV.out (by omega))
      have hdrop : endsF n (ks.drop j) = endsF n (ks[j] :: ks.drop (j + 1)) := by rw [List.drop_eq_getElem_cons hjk]
      have HDr := Lib.hid hdrop
      clear hdrop hji
      generalize hkk : ks[j] = kk at *
      have HKK := Lib.hid hkk
      clear hkk
      have hEl := endsF_bd n (ks.drop (j + 1)) E (by rw [List.length_drop]; omega) HE.out
      rw [List.length_drop] at hEl
      have hlen : E.length = n - (j + 1) := by rw [hEl.1]; omega
      have hEb : Hid (∀ t (h : t < E.length), j + 1 + t < E[t] ∧ E[t] ≤ n) := Lib.hid (fun t h => by have := hEl.2 t h; omega)
      have hll : n - (List.drop (j + 1) ks).length = j + 1 := by rw [List.length_drop]; omega
      have HEq : Hid (endsF n (ks.drop j) = if kk < 0 ∨ (n : Int) < kk then none else match stepsE n (j + 1) E kk.toNat (j + 1) with | none => none | some e => some (e :: E)) := Lib.hid (by
        rw [HDr.out]; simp only [endsF]; rw [HE.out, hll])
      clear hEl hll HDr
      by_cases hbad : kk < 0 ∨ (n : Int) < kk
      · have HN : Hid (endsF n (ks.drop j) = none) := Lib.hid (by rw [HEq.out, if_pos hbad])
        have HF : Hid (endsF n ks = none) := Lib.hid (endsF_none n ks j HN.out)
        by_cases hneg : kk < 0
        · clear hbad
          go_wp2_with (go_at_call 47; refine (kids_any b g cap n j kk _ hkv (by omega) hkc).mono ?_; rintro e w2 ⟨rfl, rfl⟩)
          go_ret2
          exact EndsPost.none_of (by rw [HBe.out]; exact HB.out) HF.out
        · have hbig : (n : Int) < kk := by omega
          clear hbad
          go_wp2_with (go_at_call 47; refine (kids_any b g cap n j kk _ hkv (by omega) hkc).mono ?_; rintro e w2 ⟨rfl, rfl⟩)
          go_ret2
          exact EndsPost.none_of (by rw [HBe.out]; exact HB.out) HF.out
      · have hnneg : ¬ kk < 0 := by omega
        have hnbig : ¬ (n : Int) < kk := by omega
        have HEq2 : Hid (endsF n (ks.drop j) = match stepsE n (j + 1) E kk.toNat (j + 1) with | none => none | some e => some (e :: E)) := Lib.hid (by rw [HEq.out, if_neg hbad])
        clear hbad HEq
        go_wp2_with (go_at_call 47; refine (kids_any b g cap n j kk _ hkv (by omega) hkc).mono ?_; rintro e w2 ⟨rfl, rfl⟩)
        go_loop [8, 9] (fun k e => ∃ (q x : Nat), k = .int .i64 q ∧ e = .int .i64 x ∧ (q : Int) ≤ kk ∧ j + 1 ≤ x ∧ x ≤ n ∧ stepsE n (j + 1) E q x = stepsE n (j + 1) E kk.toNat (j + 1)) (fun k _ => (intOf k).toNat)
        case atStart => exact ⟨kk.toNat, j + 1, by rw [Int.toNat_of_nonneg (by omega)], rfl, by omega, Nat.le_refl _, hj, rfl⟩
        case round =>
          obtain ⟨q, x, rfl, rfl, hqk, hx1, hx2, hst⟩ := hrel
          have HS := Lib.hid hst
          clear hst
          cases q with
          | zero =>
            have HX : Hid (endsF n (ks.drop j) = some (x :: E)) := Lib.hid (by rw [HEq2.out, ← HS.out]; rfl)
            have hof : ∃ u, wr.cell? ⟨B, j, none⟩ = some u := ⟨.int .i64 0, by
              rw [HO.out.cellAt j (by omega)]; unfold rowE; rw [List.getElem?_append_left (by simp)]; simp⟩
            obtain ⟨u, hu⟩ := hof
            have hfz := HO.out.frozenAt j
            have hst2 := Lib.hid (HO.out.stored j (.int .i64 x))
            have hj0 : 0 ≤ (j : Int) ∧ (j : Int) < (n : Int) := by omega
            go_wp2
            go_roundw
            case rel =>
              exact ⟨j, x :: E, by omega, rfl, HX.out, by have := hst2.out.1; rwa [rowE_set] at this, HB.out.setCell (Nat.le_refl B) _⟩
            case measure => simp [intOf]
          | succ q =>
            have hq1 : ((q + 1 : Nat) : Int) = (q : Int) + 1 := by omega
            rw [hq1]
            clear hq1
            by_cases hxn : n ≤ x
            · have HF : Hid (endsF n ks = none) := Lib.hid (endsF_none n ks j (by rw [HEq2.out, ← HS.out]; simp only [stepsE]; rw [if_pos hxn]))
              go_wp2
              go_ret2
              exact EndsPost.none_of (by rw [HBe.out]; exact HB.out) HF.out
            · have hxl : x - (j + 1) < E.length := by omega
              have hcx : wr.cell? ⟨B, x, none⟩ = some (.int .i64 E[x - (j + 1)]) := by
                rw [HO.out.cellAt x (by omega)]
                have := rowE_get (j + 1) (x - (j + 1)) E hxl
                rwa [show j + 1 + (x - (j + 1)) = x by omega] at this
              have hbd := hEb.out (x - (j + 1)) hxl
              have HS2 : Hid (stepsE n (j + 1) E q E[x - (j + 1)] = stepsE n (j + 1) E kk.toNat (j + 1)) := Lib.hid (by
                rw [← HS.out]; simp only [stepsE]; rw [if_neg hxn, List.getD_eq_getElem?_getD, List.getElem?_eq_getElem hxl, Option.getD_some])
              generalize E[x - (j + 1)] = y at *
              go_wp2
              go_round
              case rel => exact ⟨q, y, by go_num, rfl, by omega, by omega, hbd.2, HS2.out⟩
              case measure => simp [intOf]
end Go.Proofs.YtmmohhaolgblkaaDoor

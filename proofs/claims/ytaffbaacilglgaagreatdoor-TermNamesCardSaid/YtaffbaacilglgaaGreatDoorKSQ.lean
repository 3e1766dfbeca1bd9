/- 'permitted' tells whether the fields of an item are permitted. -/
import Derived.Test.YtaffbaacilglgaaGreatDoorKSI
import Derived.Deep.RegionHeld3
namespace Go.Proofs.YtaffbaacilglgaaGreatDoor.Se
open Go.RowKit

def plainB (c : UInt8) : Bool := decide (32 ≤ c.toNat) && decide (c.toNat ≤ 126)
def permittedF (x : It) : Bool :=
  if x.kind = 5 then x.text.data.toList == []
  else if x.kind = 4 then x.text.data.toList.all plainB && x.kids == 0
  else if x.kind = 1 ∨ x.kind = 2 ∨ x.kind = 3 then x.text.data.toList.all Sx.wb && (x.kids == 0 && Sx.wkind x.text.data.toList == x.kind)
  else false
def It.val (x : It) : Value := .agg #[.int .i64 x.kind, .string x.text, .int .i64 x.kids, .int .i64 x.pos]

set_option maxHeartbeats 4000000 in
set_option maxRecDepth 100000 in
theorem permitted_any (x : It) (m : Int) (w : World) (hs : x.text.size < 4294967281) (hB : 0 < w.heap.size) (hM : w.cell? ⟨0, 0, none⟩ = some (.int .i64 m)) :
    Calls Tryz.prog 48 #[x.val] w fun e w' => e = .returned (.bool (permittedF x)) ∧ Below w.heap.size w w' := by
  have hbw : Below w.heap.size w (w.alloc (.cells #[.int .i64 x.kind, .string x.text, .int .i64 x.kids, .int .i64 x.pos] 49)) := (Below.refl _ _).alloc (Nat.le_refl _) _
  have HB := Lib.hid hbw
  clear hbw
  obtain ⟨kind, text, kids, pos⟩ := x
  simp only at hs
  unfold It.val
  by_cases h5 : kind = 5
  · have HF := Lib.hid (show permittedF ⟨kind, text, kids, pos⟩ = text.toList.isEmpty by unfold permittedF; simp only; rw [if_pos h5, ByteArray.toList_eq]; cases text.data.toList <;> rfl)
    have h5' : (kind == 5) = true := by simp [h5]
    clear h5
    go_enter Tryz.func48, Tryz.ntmps48
    go_wp2
    go_ret
    exact ⟨ret_bool (by rw [HF.out]), HB.out⟩
  · have h5' : (kind == 5) = false := by simp [h5]
    by_cases h4 : kind = 4
    · have h4' : (kind == 4) = true := by simp [h4]
      have HF := Lib.hid (show permittedF ⟨kind, text, kids, pos⟩ = (text.data.toList.all plainB && kids == 0) by unfold permittedF; simp only; rw [if_neg h5, if_pos h4])
      clear h4 h5
      go_enter Tryz.func48, Tryz.ntmps48
      go_wp2
      have c1 : (w.alloc (.cells #[.int .i64 kind, .string text, .int .i64 kids, .int .i64 pos] 49)).cell? ⟨w.heap.size, 1, none⟩ = some (.string text) := by rw [World.cell?_alloc_at _ _ _ _ rfl]; rfl
      have c2 : (w.alloc (.cells #[.int .i64 kind, .string text, .int .i64 kids, .int .i64 pos] 49)).cell? ⟨w.heap.size, 2, none⟩ = some (.int .i64 kids) := by rw [World.cell?_alloc_at _ _ _ _ rfl]; rfl
      generalize w.alloc (.cells #[.int .i64 kind, .string text, .int .i64 kids, .int .i64 pos] 49) = wz at *
      generalize hb : w.heap.size = b at *
      have HEb := Lib.hid hb
      clear hb
      go_loop [3] (fun i => ∃ k : Nat, k ≤ text.size ∧ i = .int .i64 k ∧ (text.data.toList.take k).all plainB = true) (fun i => text.size - (intOf i).toNat)
      case atStart => exact ⟨0, Nat.zero_le _, rfl, rfl⟩
      case round =>
        obtain ⟨k, hk, rfl, ha⟩ := hrel
        have HA := Lib.hid ha
        clear ha
        by_cases hlt : k < text.size
        · by_cases hd : plainB text[k] = true
          · have e1 : ¬ (text[k].toNat : Int) < 32 := by simp only [plainB, Bool.and_eq_true, decide_eq_true_eq] at hd; omega
            have e2 : ¬ 126 < (text[k].toNat : Int) := by simp only [plainB, Bool.and_eq_true, decide_eq_true_eq] at hd; omega
            have HD := Lib.hid hd
            clear hd
            go_wp2
            go_round
            case rel => exact ⟨k + 1, by omega, by go_num, all_snoc plainB text k hlt HA.out HD.out⟩
            case measure => simp [intOf]; omega
          · have HF2 : Hid (permittedF ⟨kind, text, kids, pos⟩ = false) := Lib.hid (by rw [HF.out, all_not plainB text k hlt hd]; rfl)
            by_cases h1 : (text[k].toNat : Int) < 32
            · clear hd
              go_wp2
              go_ret
              exact ⟨ret_bool (by rw [HF2.out]), by rw [HEb.out]; exact HB.out⟩
            · have h2 : 126 < (text[k].toNat : Int) := by simp only [plainB, Bool.and_eq_true, decide_eq_true_eq] at hd; omega
              clear hd
              go_wp2
              go_ret
              exact ⟨ret_bool (by rw [HF2.out]), by rw [HEb.out]; exact HB.out⟩
        · have HF2 : Hid (permittedF ⟨kind, text, kids, pos⟩ = (kids == 0)) := Lib.hid (by rw [HF.out, all_end plainB text k hlt HA.out]; rfl)
          clear HA
          go_wp2
          go_ret
          exact ⟨ret_bool (by rw [HF2.out]), by rw [HEb.out]; exact HB.out⟩
    · have h4' : (kind == 4) = false := by simp [h4]
      by_cases h123 : kind = 1 ∨ kind = 2 ∨ kind = 3
      · have HF := Lib.hid (show permittedF ⟨kind, text, kids, pos⟩ = (text.data.toList.all Sx.wb && (kids == 0 && Sx.wkind text.data.toList == kind)) by unfold permittedF; simp only; rw [if_neg h5, if_neg h4, if_pos h123])
        have hor : ((kind == 1) = true) ∨ ((kind == 1) = false ∧ (kind == 2) = true) ∨ ((kind == 1) = false ∧ (kind == 2) = false ∧ (kind == 3) = true) := by
          simp only [beq_iff_eq, beq_eq_false_iff_ne, ne_eq]; omega
        clear h4 h5 h123
        rcases hor with h1' | ⟨h1', h2'⟩ | ⟨h1', h2', h3'⟩
        all_goals
          go_enter Tryz.func48, Tryz.ntmps48
          go_wp2
          have c0 : (w.alloc (.cells #[.int .i64 kind, .string text, .int .i64 kids, .int .i64 pos] 49)).cell? ⟨w.heap.size, 0, none⟩ = some (.int .i64 kind) := by rw [World.cell?_alloc_at _ _ _ _ rfl]; rfl
          have c1 : (w.alloc (.cells #[.int .i64 kind, .string text, .int .i64 kids, .int .i64 pos] 49)).cell? ⟨w.heap.size, 1, none⟩ = some (.string text) := by rw [World.cell?_alloc_at _ _ _ _ rfl]; rfl
          have c2 : (w.alloc (.cells #[.int .i64 kind, .string text, .int .i64 kids, .int .i64 pos] 49)).cell? ⟨w.heap.size, 2, none⟩ = some (.int .i64 kids) := by rw [World.cell?_alloc_at _ _ _ _ rfl]; rfl
          have hM2 : (w.alloc (.cells #[.int .i64 kind, .string text, .int .i64 kids, .int .i64 pos] 49)).cell? ⟨0, 0, none⟩ = some (.int .i64 m) := (World.cell?_alloc_past _ _ _ (by exact hB)).trans hM
          have hsz : w.heap.size < (w.alloc (.cells #[.int .i64 kind, .string text, .int .i64 kids, .int .i64 pos] 49)).heap.size := by simp
          generalize w.alloc (.cells #[.int .i64 kind, .string text, .int .i64 kids, .int .i64 pos] 49) = wz at *
          generalize hb : w.heap.size = b at *
          have HEb := Lib.hid hb
          clear hb hM
          go_loop [4] (fun i => ∃ k : Nat, k ≤ text.size ∧ i = .int .i64 k ∧ (text.data.toList.take k).all Sx.wb = true) (fun i => text.size - (intOf i).toNat)
          case atStart => exact ⟨0, Nat.zero_le _, rfl, rfl⟩
          case round =>
            obtain ⟨k, hk, rfl, ha⟩ := hrel
            have HA := Lib.hid ha
            clear ha
            by_cases hlt : k < text.size
            · go_wp2_with (go_at_call 46; refine (isWordByte_any _ _).mono ?_; rintro e w' ⟨rfl, rfl⟩)
              · have hd : (!Sx.wb text[k]) = true := by assumption
                have HF2 : Hid (permittedF ⟨kind, text, kids, pos⟩ = false) := Lib.hid (by rw [HF.out, all_not Sx.wb text k hlt (by simpa using hd)]; rfl)
                go_ret
                exact ⟨ret_bool (by rw [HF2.out]), by rw [HEb.out]; exact HB.out⟩
              · have hd : (!Sx.wb text[k]) = false := by assumption
                go_round
                case rel => exact ⟨k + 1, by omega, by go_num, all_snoc Sx.wb text k hlt HA.out (by simpa using hd)⟩
                case measure => simp [intOf]; omega
            · have HF2 : Hid (permittedF ⟨kind, text, kids, pos⟩ = (kids == 0 && Sx.wkind text.data.toList == kind)) := Lib.hid (by rw [HF.out, all_end Sx.wb text k hlt HA.out]; rfl)
              clear HA
              by_cases h0 : (kids == 0) = true
              · have HF3 : Hid (permittedF ⟨kind, text, kids, pos⟩ = (Sx.wkind text.data.toList == kind)) := Lib.hid (by rw [HF2.out, h0]; rfl)
                go_wp2
                go_region_held3 (fun w' => w'.cell? ⟨b, 0, none⟩ = some (.int .i64 kind) ∧ w'.cell? ⟨b, 1, none⟩ = some (.string text) ∧ w'.cell? ⟨b, 2, none⟩ = some (.int .i64 kids)) (first | go_keep | exact ⟨q0, q1, q2⟩) ((go_at_call 47; refine (wordKind_any text m wz.drew hs hM2).mono ?_; rintro e w3 ⟨rfl, hb3⟩; have q0 := (hb3.cell (p := ⟨b, 0, none⟩) (by exact hsz)).trans c0; have q1 := (hb3.cell (p := ⟨b, 1, none⟩) (by exact hsz)).trans c1; have q2 := (hb3.cell (p := ⟨b, 2, none⟩) (by exact hsz)).trans c2; have HB3 := Lib.hid hb3; clear hb3))
                go_wp2
                go_ret
                exact ⟨ret_bool (by rw [HF3.out]), by rw [HEb.out]; exact (show Below b w wz.drew from below_drewN HB.out 1).trans (HB3.out.mono (Nat.le_of_lt hsz))⟩
              · have h0' : (kids == 0) = false := by simpa using h0
                have HF3 : Hid (permittedF ⟨kind, text, kids, pos⟩ = false) := Lib.hid (by rw [HF2.out, h0']; rfl)
                clear h0
                go_wp2
                go_quiet (fail)
                go_wp2
                go_ret
                exact ⟨ret_bool (by rw [HF3.out]), by rw [HEb.out]; exact below_drewN HB.out _⟩
      · have HF := Lib.hid (show permittedF ⟨kind, text, kids, pos⟩ = false by unfold permittedF; simp only; rw [if_neg h5, if_neg h4, if_neg h123])
        have h1' : (kind == 1) = false := by simp; omega
        have h2' : (kind == 2) = false := by simp; omega
        have h3' : (kind == 3) = false := by simp; omega
        clear h4 h5 h123
        go_enter Tryz.func48, Tryz.ntmps48
        go_wp2
        go_ret
        exact ⟨ret_bool (by rw [HF.out]), HB.out⟩
end Go.Proofs.YtaffbaacilglgaaGreatDoor.Se
/- 'Ends' over the items of a list: where each item's descendants end. -/
namespace Go.Proofs.YtaffbaacilglgaaGreatDoor.Se
open Go.RowKit

set_option maxHeartbeats 400000 in
/-- the closure that 'check' hands over: the number of elements of item i -/
theorem kids_any (b g cap n i : Nat) (a : Int) (w : World) (hv : w.cell? ⟨b, 0, none⟩ = some (.slice (some ⟨g, 0, none⟩) n cap)) (hi : i < n) (hc : w.cell? ⟨g, i * 4 + 2, none⟩ = some (.int .i64 a)) :
    Calls Tryz.prog 49 #[.int .i64 i, .pointer (some ⟨b, 0, none⟩)] w fun e w' => e = .returned (.int .i64 a) ∧ w = w' := by
  go_enter Tryz.func49, Tryz.ntmps49
  go_wp2
  go_ret
  exact ⟨rfl, rfl⟩

/-- k steps along the ends, from e: nothing if the list is too short -/
def stepsE (n base : Nat) (E : List Nat) : Nat → Nat → Option Nat
  | 0, e => some e
  | k + 1, e => if n ≤ e then none else stepsE n base E k (E.getD (e - base) 0)
/-- the ends of the items from index n - ks.length on -/
def endsF (n : Nat) : List Int → Option (List Nat)
  | [] => some []
  | k :: ks => match endsF n ks with
    | none => none
    | some E => if k < 0 ∨ (n : Int) < k then none else
      match stepsE n (n - ks.length) E k.toNat (n - ks.length) with
      | none => none
      | some e => some (e :: E)

theorem stepsE_bd (n base : Nat) (E : List Nat) (hE : ∀ t (h : t < E.length), base + t < E[t] ∧ E[t] ≤ n) (hl : base + E.length = n) : ∀ (k e e' : Nat), base ≤ e → e ≤ n → stepsE n base E k e = some e' → e ≤ e' ∧ e' ≤ n := by
  intro k
  induction k with
  | zero => intro e e' h1 h2 h; simp only [stepsE] at h; cases h; exact ⟨Nat.le_refl _, h2⟩
  | succ k ih =>
    intro e e' h1 h2 h
    simp only [stepsE] at h
    split at h
    · cases h
    · have hlt : e - base < E.length := by omega
      rw [List.getD_eq_getElem?_getD, List.getElem?_eq_getElem hlt, Option.getD_some] at h
      have hb := hE (e - base) hlt
      have := ih _ e' (by omega) hb.2 h
      omega
theorem endsF_bd (n : Nat) : ∀ (ks : List Int) (E : List Nat), ks.length ≤ n → endsF n ks = some E → E.length = ks.length ∧ ∀ t (h : t < E.length), n - ks.length + t < E[t] ∧ E[t] ≤ n := by
  intro ks
  induction ks with
  | nil => intro E _ h; simp only [endsF] at h; cases h; exact ⟨rfl, by intro t h; simp at h⟩
  | cons k ks ih =>
    intro E hl h
    simp only [List.length_cons] at hl
    simp only [endsF] at h
    cases e : endsF n ks with
    | none => rw [e] at h; cases h
    | some E' =>
      rw [e] at h
      obtain ⟨h1, h2⟩ := ih E' (by omega) e
      simp only at h
      split at h
      · cases h
      · cases e2 : stepsE n (n - ks.length) E' k.toNat (n - ks.length) with
        | none => rw [e2] at h; cases h
        | some x =>
          rw [e2] at h; cases h
          have hb := stepsE_bd n (n - ks.length) E' h2 (by omega) k.toNat (n - ks.length) x (Nat.le_refl _) (by omega) e2
          refine ⟨by simp [h1], ?_⟩
          intro t ht
          cases t with
          | zero => simp only [List.length_cons, List.getElem_cons_zero]; omega
          | succ t =>
            simp only [List.length_cons, List.getElem_cons_succ]
            have := h2 t (by simp at ht; omega)
            omega

/-- the cells of the row as it is filled from its end -/
def rowE (j : Nat) (E : List Nat) : List Value := List.replicate j (.int .i64 0) ++ E.map fun n : Nat => Value.int .i64 n
theorem rowE_set (j e : Nat) (E : List Nat) : (rowE (j + 1) E).set j (.int .i64 e) = rowE j (e :: E) := by
  unfold rowE
  rw [List.replicate_succ', List.append_assoc, List.set_append_right _ _ (by simp)]
  simp
theorem rowE_get (j t : Nat) (E : List Nat) (h : t < E.length) : (rowE j E)[j + t]? = some (.int .i64 E[t]) := by
  unfold rowE
  rw [List.getElem?_append_right (by simp)]
  simp [h]

def EndsPost (w : World) (n : Nat) (ks : List Int) (e : Ending) (w' : World) : Prop :=
  Below w.heap.size w w' ∧ match endsF n ks with
    | some E => ∃ v, e = .returned (.tuple #[v, .bool true]) ∧ w'.ownsRow w.heap.size 3 1 v n (E.map fun n : Nat => Value.int .i64 n)
    | none => e = .returned (.tuple #[.slice none 0 0, .bool false])

theorem EndsPost.none_of {w w' : World} {n : Nat} {ks : List Int} (hb : Below w.heap.size w w') (h : endsF n ks = none) : EndsPost w n ks (.returned (.tuple #[.slice none 0 0, .bool false])) w' := by
  unfold EndsPost; rw [h]; exact ⟨hb, rfl⟩
theorem EndsPost.some_of {w w' : World} {n : Nat} {ks : List Int} {E : List Nat} {v : Value} (hb : Below w.heap.size w w') (h : endsF n ks = some E) (ho : w'.ownsRow w.heap.size 3 1 v n (E.map fun n : Nat => Value.int .i64 n)) : EndsPost w n ks (.returned (.tuple #[v, .bool true])) w' := by
  unfold EndsPost; rw [h]; exact ⟨hb, v, rfl, ho⟩
theorem endsF_none (n : Nat) (ks : List Int) : ∀ j, endsF n (ks.drop j) = none → endsF n ks = none := by
  intro j
  induction j generalizing ks with
  | zero => intro h; rwa [List.drop_zero] at h
  | succ j ih =>
    intro h
    cases ks with
    | nil => simpa using h
    | cons a r =>
      rw [List.drop_succ_cons] at h
      have := ih r h
      simp only [endsF]; rw [this]
theorem made_zero (n : Nat) : (madeCells (Value.cells (.int .i64 0)) (n * 1)).toList = rowE n [] := by
  unfold rowE
  rw [List.map_nil, List.append_nil, List.eq_replicate_iff]
  refine ⟨by simp [madeCells], fun x hx => ?_⟩
  simp only [madeCells, Value.cells, Array.toList_map, List.mem_map] at hx
  obtain ⟨a, _, rfl⟩ := hx
  simp [Nat.mod_one]
set_option maxHeartbeats 2000000 in
set_option maxRecDepth 100000 in
theorem ends_any (b g cap n : Nat) (ks : List Int) (w : World) (hn : n ≤ 1000000000) (hks : ks.length = n) (hb : b < w.heap.size) (hg : g < w.heap.size)
    (hv : n ≠ 0 → w.cell? ⟨b, 0, none⟩ = some (.slice (some ⟨g, 0, none⟩) n cap)) (hc : ∀ i (h : i < ks.length), w.cell? ⟨g, i * 4 + 2, none⟩ = some (.int .i64 ks[i])) :
    Calls Tryz.prog 30 #[.int .i64 n, .func (.func 49) #[] #[.pointer (some ⟨b, 0, none⟩)]] w (EndsPost w n ks) := by
  obtain ⟨i0, hi, hz0, hz1, hz2⟩ := info_parts infoInt
  have HC := Lib.hid hc
  have HV := Lib.hid hv
  clear hc hv
  go_enter Tryz.func30, Tryz.ntmps30
  go_wp2_with (refine wpList_make_full _ rfl (.tmp 10) (.tmp 10) 46 rfl w.heap.size 3 i0 (.int .i64 0) 1 Tryz.underlying46 hi hz0 hz1 .i64 .i64 n n n rfl rfl rfl rfl (by rw [hz2]; omega) (by unfold maxLen; omega) (Nat.le_refl _) ?_; intro w1 hown hgrow)
  have hbel : Below w.heap.size w w1 := (Below.refl _ _).grown hgrow (Nat.le_refl _) (fun k h => by cases h)
  have hown0 : Hid (w1.ownsRow w.heap.size 3 1 (.slice (some ⟨w.heap.size, 0, none⟩) n n) n (rowE n [])) := Lib.hid (by
    have e : (madeCells (Value.cells (.int .i64 0)) (n * 1)).toList = rowE n [] := made_zero n
    rwa [e] at hown)
  have HB0 := Lib.hid hbel
  clear hown hgrow hbel
  generalize hB : w.heap.size = B at *
  have HBe := Lib.hid hB
  clear hB
  go_loopw [7] (fun i wr => ∃ (j : Nat) (E : List Nat), j ≤ n ∧ i = .int .i64 ((j : Int) - 1) ∧ endsF n (ks.drop j) = some E ∧ wr.ownsRow B 3 1 (.slice (some ⟨B, 0, none⟩) n n) n (rowE j E) ∧ Below B w wr)
    (fun i _ => (intOf i + 1).toNat)
  case atStart => exact ⟨n, [], Nat.le_refl _, rfl, by rw [List.drop_of_length_le (by omega)]; rfl, hown0.out, HB0.out⟩
  case round =>
    clear hown0 HB0
    obtain ⟨j, E, hj, rfl, hE, hown, hbel⟩ := hrel
    have HE := Lib.hid hE
    have HO := Lib.hid hown
    have HB := Lib.hid hbel
    clear hE hown hbel
    cases j with
    | zero =>
      have HF : Hid (endsF n ks = some E) := Lib.hid (by have := HE.out; rwa [List.drop_zero] at this)
      go_wp2
      go_ret2
      exact EndsPost.some_of (by rw [HBe.out]; exact HB.out) HF.out (by rw [HBe.out]; have := HO.out; unfold rowE at this; simpa using this)
    | succ j =>
      have hji : ((j + 1 : Nat) : Int) - 1 = (j : Int) := by omega
      rw [hji]
      have hjk : j < ks.length := by omega
      have hkc : wr.cell? ⟨g, j * 4 + 2, none⟩ = some (.int .i64 ks[j]) := (HB.out.cell (p := ⟨g, j * 4 + 2, none⟩) hg).trans (HC.out j hjk)
      have hkv : wr.cell? ⟨b, 0, none⟩ = some (.slice (some ⟨g, 0, none⟩) n cap) := (HB.out.cell (p := ⟨b, 0, none⟩) hb).trans (HV.out (by omega))
      have hdrop : endsF n (ks.drop j) = endsF n (ks[j] :: ks.drop (j + 1)) := by rw [List.drop_eq_getElem_cons hjk]
      have HDr := Lib.hid hdrop
      clear hdrop hji
      generalize hkk : ks[j] = kk at *
      have HKK := Lib.hid hkk
      clear hkk
      have hEl := endsF_bd n (ks.drop (j + 1)) E (by rw [List.length_drop]; omega) HE.out
      rw [List.length_drop] at hEl
      have hlen : E.length = n - (j + 1) := by rw [hEl.1]; omega
      have hEb : Hid (∀ t (h : t < E.length), j + 1 + t < E[t] ∧ E[t] ≤ n) := Lib.hid (fun t h => by have := hEl.2 t h; omega)
      have hll : n - (List.drop (j + 1) ks).length = j + 1 := by rw [List.length_drop]; omega
      have HEq : Hid (endsF n (ks.drop j) = if kk < 0 ∨ (n : Int) < kk then none else match stepsE n (j + 1) E kk.toNat (j + 1) with | none => none | some e => some (e :: E)) := Lib.hid (by
        rw [HDr.out]; simp only [endsF]; rw [HE.out, hll])
      clear hEl hll HDr
      by_cases hbad : kk < 0 ∨ (n : Int) < kk
      · have HN : Hid (endsF n (ks.drop j) = none) := Lib.hid (by rw [HEq.out, if_pos hbad])
        have HF : Hid (endsF n ks = none) := Lib.hid (endsF_none n ks j HN.out)
        by_cases hneg : kk < 0
        · clear hbad
          go_wp2_with (go_at_call 49; refine (kids_any b g cap n j kk _ hkv (by omega) hkc).mono ?_; rintro e w2 ⟨rfl, rfl⟩)
          go_ret2
          exact EndsPost.none_of (by rw [HBe.out]; exact HB.out) HF.out
        · have hbig : (n : Int) < kk := by omega
          clear hbad
          go_wp2_with (go_at_call 49; refine (kids_any b g cap n j kk _ hkv (by omega) hkc).mono ?_; rintro e w2 ⟨rfl, rfl⟩)
          go_ret2
          exact EndsPost.none_of (by rw [HBe.out]; exact HB.out) HF.out
      · have hnneg : ¬ kk < 0 := by omega
        have hnbig : ¬ (n : Int) < kk := by omega
        have HEq2 : Hid (endsF n (ks.drop j) = match stepsE n (j + 1) E kk.toNat (j + 1) with | none => none | some e => some (e :: E)) := Lib.hid (by rw [HEq.out, if_neg hbad])
        clear hbad HEq
        go_wp2_with (go_at_call 49; refine (kids_any b g cap n j kk _ hkv (by omega) hkc).mono ?_; rintro e w2 ⟨rfl, rfl⟩)
        go_loop [8, 9] (fun k e => ∃ (q x : Nat), k = .int .i64 q ∧ e = .int .i64 x ∧ (q : Int) ≤ kk ∧ j + 1 ≤ x ∧ x ≤ n ∧ stepsE n (j + 1) E q x = stepsE n (j + 1) E kk.toNat (j + 1)) (fun k _ => (intOf k).toNat)
        case atStart => exact ⟨kk.toNat, j + 1, by rw [Int.toNat_of_nonneg (by omega)], rfl, by omega, Nat.le_refl _, hj, rfl⟩
        case round =>
          obtain ⟨q, x, rfl, rfl, hqk, hx1, hx2, hst⟩ := hrel
          have HS := Lib.hid hst
          clear hst
          cases q with
          | zero =>
            have HX : Hid (endsF n (ks.drop j) = some (x :: E)) := Lib.hid (by rw [HEq2.out, ← HS.out]; rfl)
            have hof : ∃ u, wr.cell? ⟨B, j, none⟩ = some u := ⟨.int .i64 0, by
              rw [HO.out.cellAt j (by omega)]; unfold rowE; rw [List.getElem?_append_left (by simp)]; simp⟩
            obtain ⟨u, hu⟩ := hof
            have hfz := HO.out.frozenAt j
            have hst2 := Lib.hid (HO.out.stored j (.int .i64 x))
            have hj0 : 0 ≤ (j : Int) ∧ (j : Int) < (n : Int) := by omega
            go_wp2
            go_roundw
            case rel =>
              exact ⟨j, x :: E, by omega, rfl, HX.out, by have := hst2.out.1; rwa [rowE_set] at this, HB.out.setCell (Nat.le_refl B) _⟩
            case measure => simp [intOf]
          | succ q =>
            have hq1 : ((q + 1 : Nat) : Int) = (q : Int) + 1 := by omega
            rw [hq1]
            clear hq1
            by_cases hxn : n ≤ x
            · have HF : Hid (endsF n ks = none) := Lib.hid (endsF_none n ks j (by rw [HEq2.out, ← HS.out]; simp only [stepsE]; rw [if_pos hxn]))
              go_wp2
              go_ret2
              exact EndsPost.none_of (by rw [HBe.out]; exact HB.out) HF.out
            · have hxl : x - (j + 1) < E.length := by omega
              have hcx : wr.cell? ⟨B, x, none⟩ = some (.int .i64 E[x - (j + 1)]) := by
                rw [HO.out.cellAt x (by omega)]
                have := rowE_get (j + 1) (x - (j + 1)) E hxl
                rwa [show j + 1 + (x - (j + 1)) = x by omega] at this
              have hbd := hEb.out (x - (j + 1)) hxl
              have HS2 : Hid (stepsE n (j + 1) E q E[x - (j + 1)] = stepsE n (j + 1) E kk.toNat (j + 1)) := Lib.hid (by
                rw [← HS.out]; simp only [stepsE]; rw [if_neg hxn, List.getD_eq_getElem?_getD, List.getElem?_eq_getElem hxl, Option.getD_some])
              generalize E[x - (j + 1)] = y at *
              go_wp2
              go_round
              case rel => exact ⟨q, y, by go_num, rfl, by omega, by omega, hbd.2, HS2.out⟩
              case measure => simp [intOf]
end Go.Proofs.YtaffbaacilglgaaGreatDoor.Se

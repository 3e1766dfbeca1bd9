/- The reference's tests of sorts and fields. -/
import Derived.Test.YthefknoicelhaaaGreatDoorFWC
import Derived.Test.YthefknoicelhaaaGreatDoorFZG
import Derived.Test.YthefknoicelhaaaGreatDoorFRG
namespace Go.Proofs.YthefknoicelhaaaGreatDoor.Se
open Go.RowKit Nmx

section
set_option maxHeartbeats 4000000
set_option maxRecDepth 100000
theorem sorted_any (s : Int) (w : World) : Calls Tryz.prog 94 #[.int .i64 s] w fun e w' => e = .returned (.bool (srF s)) ∧ w' = w := by
  by_cases h1 : 1 ≤ s
  · by_cases h2 : s ≤ 4
    · have HN : Hid (srF s = true) := Lib.hid (by unfold srF; simp [h1, h2])
      go_enter Tryz.func94, Tryz.ntmps94
      go_wp2
      go_ret
      exact ⟨by rw [HN.out]; rfl, rfl⟩
    · have HN : Hid (srF s = false) := Lib.hid (by unfold srF; simp [h2])
      go_enter Tryz.func94, Tryz.ntmps94
      go_wp2
      go_ret
      exact ⟨by rw [HN.out]; rfl, rfl⟩
  · have HN : Hid (srF s = false) := Lib.hid (by unfold srF; simp [h1])
    go_enter Tryz.func94, Tryz.ntmps94
    go_wp2
    go_ret
    exact ⟨by rw [HN.out]; rfl, rfl⟩
theorem numeric_any (s : Int) (w : World) : Calls Tryz.prog 97 #[.int .i64 s] w fun e w' => e = .returned (.bool (nuF s)) ∧ w' = w := by
  by_cases h1 : s = 2
  · subst h1
    go_enter Tryz.func97, Tryz.ntmps97
    go_wp2
    go_ret
    exact ⟨rfl, rfl⟩
  · by_cases h2 : s = 3
    · subst h2
      go_enter Tryz.func97, Tryz.ntmps97
      go_wp2
      go_ret
      exact ⟨rfl, rfl⟩
    · have HN : Hid (nuF s = false) := Lib.hid (by unfold nuF; simp [h1, h2])
      have h3 : (s == 2) = false := by simp [h1]
      have h4 : (s == 3) = false := by simp [h2]
      go_enter Tryz.func97, Tryz.ntmps97
      go_wp2
      go_ret
      exact ⟨by rw [HN.out]; rfl, rfl⟩
theorem rIsInt_q (t : ByteArray) (w : World) (hs : t.size ≤ 1000) : Calls Tryz.prog 86 #[.string t] w fun e w' => e = .returned (.bool (iN t)) ∧ Below w.heap.size w w' := by
  have h := refIsInt_any t w (by omega)
  rw [show isI t.data.toList = iN t from rfl] at h
  exact h
theorem rValid_q (t : ByteArray) (w : World) (hs : t.size ≤ 1000) : Calls Tryz.prog 87 #[.string t] w fun e w' => e = .returned (.bool (vN t)) ∧ Below w.heap.size w w' :=
  refValid_any t w (by omega)
theorem rSign_q (t : ByteArray) (w : World) (hs : t.size ≤ 1000) : Calls Tryz.prog 95 #[.string t] w fun e w' => e = .returned (.int .i64 (sN t)) ∧ Below w.heap.size w w' := by
  have h := refSign_any t w (by omega)
  rw [show sgO t.data.toList = sN t from by unfold sgO sN; cases ratF t.data.toList <;> rfl] at h
  exact h
theorem rIsInt_b (t : ByteArray) (w : World) (hs : t.size ≤ 1000) {b : Bool} (h : iN t = b) : Calls Tryz.prog 86 #[.string t] w fun e w' => e = .returned (.bool b) ∧ Below w.heap.size w w' := by
  rw [← h]; exact rIsInt_q t w hs
theorem rValid_b (t : ByteArray) (w : World) (hs : t.size ≤ 1000) {b : Bool} (h : vN t = b) : Calls Tryz.prog 87 #[.string t] w fun e w' => e = .returned (.bool b) ∧ Below w.heap.size w w' := by
  rw [← h]; exact rValid_q t w hs
theorem rName_b (t : ByteArray) (w : World) {b : Bool} (h : nameF t.toList = b) : Calls Tryz.prog 20 #[.string t] w fun e w' => e = .returned (.bool b) ∧ Below w.heap.size w w' := by
  rw [← h]; exact refName_any t w
theorem sorted_b (s : Int) (w : World) {b : Bool} (h : srF s = b) : Calls Tryz.prog 94 #[.int .i64 s] w fun e w' => e = .returned (.bool b) ∧ w' = w := by
  rw [← h]; exact sorted_any s w
/-- what the reference says of a node's fields -/
def fldF (x : Nd) : Bool := decide (1 ≤ x.op) && (decide (x.op ≤ 20) && fdF x)
theorem iN_vN {t : ByteArray} (h : iN t = true) : vN t = true := by
  unfold iN at h; unfold vN
  cases hq : ratF t.data.toList with
  | none => rw [hq] at h; cases h
  | some q => rfl
theorem refFields_any (x : Nd) (w : World) (hs : x.num.size ≤ 1000) :
    Calls Tryz.prog 73 #[x.val] w fun e w' => e = .returned (.bool (fldF x)) ∧ Below w.heap.size w w' := by
  obtain ⟨op, sort, name, num, kids⟩ := x
  unfold Nd.val
  simp only at hs
  have hbw : Below w.heap.size w (w.alloc (.cells #[.int .i64 op, .int .i64 sort, .string name, .string num, .int .i64 kids] 51)) := (Below.refl _ _).alloc (Nat.le_refl _) _
  have hl : w.heap.size < (w.alloc (.cells #[.int .i64 op, .int .i64 sort, .string name, .string num, .int .i64 kids] 51)).heap.size := by simp
  have HB := Lib.hid hbw
  have c0 : (w.alloc (.cells #[.int .i64 op, .int .i64 sort, .string name, .string num, .int .i64 kids] 51)).cell? ⟨w.heap.size, 0, none⟩ = some (.int .i64 op) := by rw [World.cell?_alloc_at _ _ _ _ rfl]; rfl
  have c1 : (w.alloc (.cells #[.int .i64 op, .int .i64 sort, .string name, .string num, .int .i64 kids] 51)).cell? ⟨w.heap.size, 1, none⟩ = some (.int .i64 sort) := by rw [World.cell?_alloc_at _ _ _ _ rfl]; rfl
  have c2 : (w.alloc (.cells #[.int .i64 op, .int .i64 sort, .string name, .string num, .int .i64 kids] 51)).cell? ⟨w.heap.size, 2, none⟩ = some (.string name) := by rw [World.cell?_alloc_at _ _ _ _ rfl]; rfl
  have c3 : (w.alloc (.cells #[.int .i64 op, .int .i64 sort, .string name, .string num, .int .i64 kids] 51)).cell? ⟨w.heap.size, 3, none⟩ = some (.string num) := by rw [World.cell?_alloc_at _ _ _ _ rfl]; rfl
  have HG : Hid (fldF ⟨op, sort, name, num, kids⟩ = (decide (1 ≤ op) && (decide (op ≤ 20) && fdF ⟨op, sort, name, num, kids⟩))) := Lib.hid rfl
  clear hbw
  by_cases e3 : op = 3
  · subst e3
    have HD : Hid (fldF ⟨3, sort, name, num, kids⟩ = ((sort == 2 || sort == 3) && (name.toList.isEmpty && (vN num && (sort == 3 || iN num))))) := Lib.hid (by rw [HG.out]; rfl)
    clear HG
    cases hnm : name.toList.isEmpty
    · have HN := Lib.hid (HD.out.trans (show _ = false by simp [hnm]))
      go_enter Tryz.func73, Tryz.ntmps73
      go_wp2
      go_ret
      exact ⟨by rw [HN.out]; rfl, by exact HB.out⟩
    · by_cases s2 : sort = 2
      · subst s2
        cases hin : iN num
        · have HN := Lib.hid (HD.out.trans (show _ = false by simp [hnm, hin]))
          go_enter Tryz.func73, Tryz.ntmps73
          go_wp2_with fail
          generalize w.alloc _ = w1 at *
          generalize hS : w.heap.size = S at *
          have HS := Lib.hid hS
          have hL1 : S < w1.heap.size := hl
          clear hS
          refine (rIsInt_b num _ hs hin).mono ?_
          rintro e w2 ⟨rfl, hb2⟩
          have HB2 := Lib.hid (HB.out.trans (hb2.mono (Nat.le_of_lt hL1)))
          have hL2 := Nat.lt_of_lt_of_le hL1 hb2.size
          have e02 := (hb2.cell (p := ⟨S, 0, none⟩) hL1).trans c0
          have e12 := (hb2.cell (p := ⟨S, 1, none⟩) hL1).trans c1
          have e22 := (hb2.cell (p := ⟨S, 2, none⟩) hL1).trans c2
          have e32 := (hb2.cell (p := ⟨S, 3, none⟩) hL1).trans c3
          clear hb2 c0 c1 c2 c3
          go_wp2
          go_ret
          exact ⟨by rw [HN.out]; rfl, by rw [HS.out]; exact HB2.out⟩
        · have hv := iN_vN hin
          have HN := Lib.hid (HD.out.trans (show _ = true by simp [hnm, hin, hv]))
          go_enter Tryz.func73, Tryz.ntmps73
          go_wp2_with fail
          generalize w.alloc _ = w1 at *
          generalize hS : w.heap.size = S at *
          have HS := Lib.hid hS
          have hL1 : S < w1.heap.size := hl
          clear hS
          refine (rIsInt_b num _ hs hin).mono ?_
          rintro e w2 ⟨rfl, hb2⟩
          have HB2 := Lib.hid (HB.out.trans (hb2.mono (Nat.le_of_lt hL1)))
          have hL2 := Nat.lt_of_lt_of_le hL1 hb2.size
          have e02 := (hb2.cell (p := ⟨S, 0, none⟩) hL1).trans c0
          have e12 := (hb2.cell (p := ⟨S, 1, none⟩) hL1).trans c1
          have e22 := (hb2.cell (p := ⟨S, 2, none⟩) hL1).trans c2
          have e32 := (hb2.cell (p := ⟨S, 3, none⟩) hL1).trans c3
          clear hb2 c0 c1 c2 c3
          go_wp2
          go_ret
          exact ⟨by rw [HN.out]; rfl, by rw [HS.out]; exact HB2.out⟩
      · by_cases s3 : sort = 3
        · subst s3
          cases hvn : vN num
          · have HN := Lib.hid (HD.out.trans (show _ = false by simp [hnm, hvn]))
            go_enter Tryz.func73, Tryz.ntmps73
            go_wp2_with fail
            generalize w.alloc _ = w1 at *
            generalize hS : w.heap.size = S at *
            have HS := Lib.hid hS
            have hL1 : S < w1.heap.size := hl
            clear hS
            refine (rValid_b num _ hs hvn).mono ?_
            rintro e w2 ⟨rfl, hb2⟩
            have HB2 := Lib.hid (HB.out.trans (hb2.mono (Nat.le_of_lt hL1)))
            have hL2 := Nat.lt_of_lt_of_le hL1 hb2.size
            have e02 := (hb2.cell (p := ⟨S, 0, none⟩) hL1).trans c0
            have e12 := (hb2.cell (p := ⟨S, 1, none⟩) hL1).trans c1
            have e22 := (hb2.cell (p := ⟨S, 2, none⟩) hL1).trans c2
            have e32 := (hb2.cell (p := ⟨S, 3, none⟩) hL1).trans c3
            clear hb2 c0 c1 c2 c3
            go_wp2
            go_ret
            exact ⟨by rw [HN.out]; rfl, by rw [HS.out]; exact HB2.out⟩
          · have HN := Lib.hid (HD.out.trans (show _ = true by simp [hnm, hvn]))
            go_enter Tryz.func73, Tryz.ntmps73
            go_wp2_with fail
            generalize w.alloc _ = w1 at *
            generalize hS : w.heap.size = S at *
            have HS := Lib.hid hS
            have hL1 : S < w1.heap.size := hl
            clear hS
            refine (rValid_b num _ hs hvn).mono ?_
            rintro e w2 ⟨rfl, hb2⟩
            have HB2 := Lib.hid (HB.out.trans (hb2.mono (Nat.le_of_lt hL1)))
            have hL2 := Nat.lt_of_lt_of_le hL1 hb2.size
            have e02 := (hb2.cell (p := ⟨S, 0, none⟩) hL1).trans c0
            have e12 := (hb2.cell (p := ⟨S, 1, none⟩) hL1).trans c1
            have e22 := (hb2.cell (p := ⟨S, 2, none⟩) hL1).trans c2
            have e32 := (hb2.cell (p := ⟨S, 3, none⟩) hL1).trans c3
            clear hb2 c0 c1 c2 c3
            go_wp2
            go_ret
            exact ⟨by rw [HN.out]; rfl, by rw [HS.out]; exact HB2.out⟩
        · have HN := Lib.hid (HD.out.trans (show _ = false by simp [s2, s3]))
          go_enter Tryz.func73, Tryz.ntmps73
          go_wp2
          go_ret
          exact ⟨by rw [HN.out]; rfl, by exact HB.out⟩
  by_cases e4 : op = 4 ∨ op = 5
  · have HD : Hid (fldF ⟨op, sort, name, num, kids⟩ = (srF sort && (nameF name.toList && num.toList.isEmpty))) := Lib.hid (by rw [HG.out]; unfold fdF; simp only; rw [if_neg e3, if_pos e4]; rcases e4 with rfl | rfl <;> rfl)
    clear HG e3
    cases hnu : num.toList.isEmpty
    · rcases e4 with rfl | rfl
      all_goals
        have HN := Lib.hid (HD.out.trans (show _ = false by simp [hnu]))
        go_enter Tryz.func73, Tryz.ntmps73
        go_wp2
        go_ret
        exact ⟨by rw [HN.out]; rfl, by exact HB.out⟩
    · cases hnm : nameF name.toList
      · rcases e4 with rfl | rfl
        all_goals
          have HN := Lib.hid (HD.out.trans (show _ = false by simp [hnm, hnu]))
          go_enter Tryz.func73, Tryz.ntmps73
          go_wp2_with fail
          generalize w.alloc _ = w1 at *
          generalize hS : w.heap.size = S at *
          have HS := Lib.hid hS
          have hL1 : S < w1.heap.size := hl
          clear hS
          refine (rName_b name _ hnm).mono ?_
          rintro e w2 ⟨rfl, hb2⟩
          have HB2 := Lib.hid (HB.out.trans (hb2.mono (Nat.le_of_lt hL1)))
          have hL2 := Nat.lt_of_lt_of_le hL1 hb2.size
          have e02 := (hb2.cell (p := ⟨S, 0, none⟩) hL1).trans c0
          have e12 := (hb2.cell (p := ⟨S, 1, none⟩) hL1).trans c1
          have e22 := (hb2.cell (p := ⟨S, 2, none⟩) hL1).trans c2
          have e32 := (hb2.cell (p := ⟨S, 3, none⟩) hL1).trans c3
          clear hb2 c0 c1 c2 c3
          go_wp2
          go_ret
          exact ⟨by rw [HN.out]; rfl, by rw [HS.out]; exact HB2.out⟩
      · cases hsr : srF sort
        · rcases e4 with rfl | rfl
          all_goals
            have HN := Lib.hid (HD.out.trans (show _ = false by simp [hnm, hnu, hsr]))
            go_enter Tryz.func73, Tryz.ntmps73
            go_wp2_with fail
            generalize w.alloc _ = w1 at *
            generalize hS : w.heap.size = S at *
            have HS := Lib.hid hS
            have hL1 : S < w1.heap.size := hl
            clear hS
            refine (rName_b name _ hnm).mono ?_
            rintro e w2 ⟨rfl, hb2⟩
            have HB2 := Lib.hid (HB.out.trans (hb2.mono (Nat.le_of_lt hL1)))
            have hL2 := Nat.lt_of_lt_of_le hL1 hb2.size
            have e02 := (hb2.cell (p := ⟨S, 0, none⟩) hL1).trans c0
            have e12 := (hb2.cell (p := ⟨S, 1, none⟩) hL1).trans c1
            have e22 := (hb2.cell (p := ⟨S, 2, none⟩) hL1).trans c2
            have e32 := (hb2.cell (p := ⟨S, 3, none⟩) hL1).trans c3
            clear hb2 c0 c1 c2 c3
            go_wp2_with fail
            refine (sorted_b sort _ hsr).mono ?_
            rintro e w3 ⟨rfl, rfl⟩
            have hL3 := hL2
            go_wp2
            go_ret
            exact ⟨by rw [HN.out]; rfl, by rw [HS.out]; exact HB2.out⟩
        · rcases e4 with rfl | rfl
          all_goals
            have HN := Lib.hid (HD.out.trans (show _ = true by simp [hnm, hnu, hsr]))
            go_enter Tryz.func73, Tryz.ntmps73
            go_wp2_with fail
            generalize w.alloc _ = w1 at *
            generalize hS : w.heap.size = S at *
            have HS := Lib.hid hS
            have hL1 : S < w1.heap.size := hl
            clear hS
            refine (rName_b name _ hnm).mono ?_
            rintro e w2 ⟨rfl, hb2⟩
            have HB2 := Lib.hid (HB.out.trans (hb2.mono (Nat.le_of_lt hL1)))
            have hL2 := Nat.lt_of_lt_of_le hL1 hb2.size
            have e02 := (hb2.cell (p := ⟨S, 0, none⟩) hL1).trans c0
            have e12 := (hb2.cell (p := ⟨S, 1, none⟩) hL1).trans c1
            have e22 := (hb2.cell (p := ⟨S, 2, none⟩) hL1).trans c2
            have e32 := (hb2.cell (p := ⟨S, 3, none⟩) hL1).trans c3
            clear hb2 c0 c1 c2 c3
            go_wp2_with fail
            refine (sorted_b sort _ hsr).mono ?_
            rintro e w3 ⟨rfl, rfl⟩
            have hL3 := hL2
            go_wp2
            go_ret
            exact ⟨by rw [HN.out]; rfl, by rw [HS.out]; exact HB2.out⟩
  by_cases e16 : op = 16 ∨ op = 17
  · have HD : Hid (fldF ⟨op, sort, name, num, kids⟩ = (sort == 0 && (name.toList.isEmpty && (iN num && decide (0 < sN num))))) := Lib.hid (by rw [HG.out]; unfold fdF; simp only; rw [if_neg e3, if_neg e4, if_pos e16]; rcases e16 with rfl | rfl <;> rfl)
    clear HG e3 e4
    by_cases s0 : sort = 0
    · subst s0
      cases hnm : name.toList.isEmpty
      · rcases e16 with rfl | rfl
        all_goals
          have HN := Lib.hid (HD.out.trans (show _ = false by simp [hnm]))
          go_enter Tryz.func73, Tryz.ntmps73
          go_wp2
          go_ret
          exact ⟨by rw [HN.out]; rfl, by exact HB.out⟩
      · cases hin : iN num
        · rcases e16 with rfl | rfl
          all_goals
            have HN := Lib.hid (HD.out.trans (show _ = false by simp [hnm, hin]))
            go_enter Tryz.func73, Tryz.ntmps73
            go_wp2_with fail
            generalize w.alloc _ = w1 at *
            generalize hS : w.heap.size = S at *
            have HS := Lib.hid hS
            have hL1 : S < w1.heap.size := hl
            clear hS
            refine (rIsInt_b num _ hs hin).mono ?_
            rintro e w2 ⟨rfl, hb2⟩
            have HB2 := Lib.hid (HB.out.trans (hb2.mono (Nat.le_of_lt hL1)))
            have hL2 := Nat.lt_of_lt_of_le hL1 hb2.size
            have e02 := (hb2.cell (p := ⟨S, 0, none⟩) hL1).trans c0
            have e12 := (hb2.cell (p := ⟨S, 1, none⟩) hL1).trans c1
            have e22 := (hb2.cell (p := ⟨S, 2, none⟩) hL1).trans c2
            have e32 := (hb2.cell (p := ⟨S, 3, none⟩) hL1).trans c3
            clear hb2 c0 c1 c2 c3
            go_wp2
            go_ret
            exact ⟨by rw [HN.out]; rfl, by rw [HS.out]; exact HB2.out⟩
        · rcases e16 with rfl | rfl
          all_goals
            have HN := Lib.hid (HD.out.trans (show _ = decide (0 < sN num) by simp [hnm, hin]))
            go_enter Tryz.func73, Tryz.ntmps73
            go_wp2_with fail
            generalize w.alloc _ = w1 at *
            generalize hS : w.heap.size = S at *
            have HS := Lib.hid hS
            have hL1 : S < w1.heap.size := hl
            clear hS
            refine (rIsInt_b num _ hs hin).mono ?_
            rintro e w2 ⟨rfl, hb2⟩
            have HB2 := Lib.hid (HB.out.trans (hb2.mono (Nat.le_of_lt hL1)))
            have hL2 := Nat.lt_of_lt_of_le hL1 hb2.size
            have e02 := (hb2.cell (p := ⟨S, 0, none⟩) hL1).trans c0
            have e12 := (hb2.cell (p := ⟨S, 1, none⟩) hL1).trans c1
            have e22 := (hb2.cell (p := ⟨S, 2, none⟩) hL1).trans c2
            have e32 := (hb2.cell (p := ⟨S, 3, none⟩) hL1).trans c3
            clear hb2 c0 c1 c2 c3
            go_wp2_with fail
            refine (rSign_q num _ hs).mono ?_
            rintro e w3 ⟨rfl, hb3⟩
            have HB3 := Lib.hid (HB2.out.trans (hb3.mono (Nat.le_of_lt hL2)))
            have hL3 := Nat.lt_of_lt_of_le hL2 hb3.size
            have e03 := (hb3.cell (p := ⟨S, 0, none⟩) hL2).trans e02
            have e13 := (hb3.cell (p := ⟨S, 1, none⟩) hL2).trans e12
            have e23 := (hb3.cell (p := ⟨S, 2, none⟩) hL2).trans e22
            have e33 := (hb3.cell (p := ⟨S, 3, none⟩) hL2).trans e32
            clear hb3 e02 e12 e22 e32
            go_wp2
            go_ret
            exact ⟨by rw [HN.out]; rfl, by rw [HS.out]; exact HB3.out⟩
    · rcases e16 with rfl | rfl
      all_goals
        have HN := Lib.hid (HD.out.trans (show _ = false by simp [s0]))
        go_enter Tryz.func73, Tryz.ntmps73
        go_wp2
        go_ret
        exact ⟨by rw [HN.out]; rfl, by exact HB.out⟩
  have HD : Hid (fldF ⟨op, sort, name, num, kids⟩ = (decide (1 ≤ op) && (decide (op ≤ 20) && (sort == 0 && (name.toList.isEmpty && num.toList.isEmpty))))) := Lib.hid (by rw [HG.out]; unfold fdF; simp only; rw [if_neg e3, if_neg e4, if_neg e16])
  clear HG
  have g4 : ¬ op = 4 := by omega
  have g5 : ¬ op = 5 := by omega
  have g16 : ¬ op = 16 := by omega
  have g17 : ¬ op = 17 := by omega
  clear e4 e16
  by_cases h1 : op < 1
  · have hd := decide_eq_false (p := 1 ≤ op) (by omega)
    have HN := Lib.hid (HD.out.trans (show _ = false by rw [hd]; rfl))
    go_enter Tryz.func73, Tryz.ntmps73
    go_wp2
    go_ret
    exact ⟨by rw [HN.out]; rfl, by exact HB.out⟩
  by_cases h2 : 20 < op
  · have hd := decide_eq_false (p := op ≤ 20) (by omega)
    have HN := Lib.hid (HD.out.trans (show _ = false by rw [hd]; simp))
    go_enter Tryz.func73, Tryz.ntmps73
    go_wp2
    go_ret
    exact ⟨by rw [HN.out]; rfl, by exact HB.out⟩
  have d1 := decide_eq_true (p := 1 ≤ op) (by omega)
  have d2 := decide_eq_true (p := op ≤ 20) (by omega)
  replace HD : Hid (fldF ⟨op, sort, name, num, kids⟩ = (sort == 0 && (name.toList.isEmpty && num.toList.isEmpty))) := Lib.hid (by rw [HD.out, d1, d2]; rfl)
  clear d1 d2
  by_cases s0 : sort = 0
  · subst s0
    cases hnm : name.toList.isEmpty
    · have HN := Lib.hid (HD.out.trans (show _ = false by simp [hnm]))
      go_enter Tryz.func73, Tryz.ntmps73
      go_wp2
      go_ret
      exact ⟨by rw [HN.out]; rfl, by exact HB.out⟩
    · cases hnu : num.toList.isEmpty
      · have HN := Lib.hid (HD.out.trans (show _ = false by simp [hnu]))
        go_enter Tryz.func73, Tryz.ntmps73
        go_wp2
        go_ret
        exact ⟨by rw [HN.out]; rfl, by exact HB.out⟩
      · have HN := Lib.hid (HD.out.trans (show _ = true by simp [hnm, hnu]))
        go_enter Tryz.func73, Tryz.ntmps73
        go_wp2
        go_ret
        exact ⟨by rw [HN.out]; rfl, by exact HB.out⟩
  · have HN := Lib.hid (HD.out.trans (show _ = false by simp [s0]))
    go_enter Tryz.func73, Tryz.ntmps73
    go_wp2
    go_ret
    exact ⟨by rw [HN.out]; rfl, by exact HB.out⟩
end
end Go.Proofs.YthefknoicelhaaaGreatDoor.Se

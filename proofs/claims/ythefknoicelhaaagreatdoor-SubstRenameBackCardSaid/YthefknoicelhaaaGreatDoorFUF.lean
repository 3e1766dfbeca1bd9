/- The fields that a node may have. -/
import Derived.Test.YthefknoicelhaaaGreatDoorFUE
import Derived.Test.YthefknoicelhaaaGreatDoorFNV
import Derived.Test.YthefknoicelhaaaGreatDoorFTB
namespace Go.Proofs.YthefknoicelhaaaGreatDoor.Se
open Go.RowKit Nmx

def vN (t : ByteArray) : Bool := (ratF t.data.toList).isSome
def iN (t : ByteArray) : Bool := match ratF t.data.toList with | some q => decide (q.den = 1) | none => false
def sN (t : ByteArray) : Int := sgnI ((ratF t.data.toList).getD 0).num
def srF (s : Int) : Bool := decide (1 ≤ s) && decide (s ≤ 4)
/-- the fields of a node, but for the number of its children -/
def fdF (x : Nd) : Bool :=
  if x.op = 3 then (x.sort == 2 || x.sort == 3) && (x.name.toList.isEmpty && (vN x.num && (x.sort == 3 || iN x.num)))
  else if x.op = 4 ∨ x.op = 5 then srF x.sort && (nameF x.name.toList && x.num.toList.isEmpty)
  else if x.op = 16 ∨ x.op = 17 then x.sort == 0 && (x.name.toList.isEmpty && (iN x.num && decide (0 < sN x.num)))
  else x.sort == 0 && (x.name.toList.isEmpty && x.num.toList.isEmpty)
def fpF (x : Nd) : Bool := decide (1 ≤ x.op) && (decide (x.op ≤ 20) && (decide ((arF x.op).1 ≤ x.kids) && (decide (x.kids ≤ (arF x.op).2) && fdF x)))
section
set_option maxHeartbeats 4000000
set_option maxRecDepth 100000
theorem valid_q (t : ByteArray) (w : World) (hs : t.size ≤ 1000) (h : Env w) : Calls Tryz.prog 101 #[.string t] w fun e w' => e = .returned (.bool (vN t)) ∧ Below w.heap.size w w' :=
  numValid_any t w (by omega) h (gcdAt_any (by rw [size_data]; omega))
theorem isInt_q (t : ByteArray) (w : World) (hs : t.size ≤ 1000) (h : Env w) : Calls Tryz.prog 102 #[.string t] w fun e w' => e = .returned (.bool (iN t)) ∧ Below w.heap.size w w' :=
  numIsInt_any t w (by omega) h (gcdAt_any (by rw [size_data]; omega))
theorem sign_q (t : ByteArray) (w : World) (hs : t.size ≤ 1000) (h : Env w) : Calls Tryz.prog 104 #[.string t] w fun e w' => e = .returned (.int .i64 (sN t)) ∧ Below w.heap.size w w' :=
  numSign_any t w (by omega) h (gcdAt_any (by rw [size_data]; omega))
theorem fieldsPermitted_any (x : Nd) (w : World) (hs : x.num.size ≤ 1000) (h : Env w) :
    Calls Tryz.prog 78 #[x.val] w fun e w' => e = .returned (.bool (fpF x)) ∧ Below w.heap.size w w' := by
  obtain ⟨op, sort, name, num, kids⟩ := x
  unfold Nd.val
  simp only at hs
  have hbw : Below w.heap.size w (w.alloc (.cells #[.int .i64 op, .int .i64 sort, .string name, .string num, .int .i64 kids] 51)) := (Below.refl _ _).alloc (Nat.le_refl _) _
  have HE := Lib.hid (h.far hbw)
  have hl : w.heap.size < (w.alloc (.cells #[.int .i64 op, .int .i64 sort, .string name, .string num, .int .i64 kids] 51)).heap.size := by simp
  have HB := Lib.hid hbw
  have c0 : (w.alloc (.cells #[.int .i64 op, .int .i64 sort, .string name, .string num, .int .i64 kids] 51)).cell? ⟨w.heap.size, 0, none⟩ = some (.int .i64 op) := by rw [World.cell?_alloc_at _ _ _ _ rfl]; rfl
  have c1 : (w.alloc (.cells #[.int .i64 op, .int .i64 sort, .string name, .string num, .int .i64 kids] 51)).cell? ⟨w.heap.size, 1, none⟩ = some (.int .i64 sort) := by rw [World.cell?_alloc_at _ _ _ _ rfl]; rfl
  have c2 : (w.alloc (.cells #[.int .i64 op, .int .i64 sort, .string name, .string num, .int .i64 kids] 51)).cell? ⟨w.heap.size, 2, none⟩ = some (.string name) := by rw [World.cell?_alloc_at _ _ _ _ rfl]; rfl
  have c3 : (w.alloc (.cells #[.int .i64 op, .int .i64 sort, .string name, .string num, .int .i64 kids] 51)).cell? ⟨w.heap.size, 3, none⟩ = some (.string num) := by rw [World.cell?_alloc_at _ _ _ _ rfl]; rfl
  have c4 : (w.alloc (.cells #[.int .i64 op, .int .i64 sort, .string name, .string num, .int .i64 kids] 51)).cell? ⟨w.heap.size, 4, none⟩ = some (.int .i64 kids) := by rw [World.cell?_alloc_at _ _ _ _ rfl]; rfl
  have ha := arity_any op (w.alloc (.cells #[.int .i64 op, .int .i64 sort, .string name, .string num, .int .i64 kids] 51))
  have HF : Hid (fpF ⟨op, sort, name, num, kids⟩ = (decide (1 ≤ op) && (decide (op ≤ 20) && (decide ((arF op).1 ≤ kids) && (decide (kids ≤ (arF op).2) && fdF ⟨op, sort, name, num, kids⟩))))) := Lib.hid rfl
  clear hbw h
  go_enter Tryz.func78, Tryz.ntmps78
  go_wp2_with fail
  generalize w.alloc (.cells #[.int .i64 op, .int .i64 sort, .string name, .string num, .int .i64 kids] 51) = w1 at *
  refine ha.mono ?_
  rintro e w2 ⟨rfl, rfl⟩
  clear ha
  generalize hlo : (arF op).1 = lo at *
  generalize hhi : (arF op).2 = hi at *
  clear hlo hhi
  generalize hS : w.heap.size = S at *
  have HS := Lib.hid hS
  have hS2 : S ≤ w2.heap.size := Nat.le_of_lt hl
  clear hS
  by_cases h1 : op < 1
  · have HN : Hid (fpF ⟨op, sort, name, num, kids⟩ = false) := Lib.hid (by rw [HF.out, decide_eq_false (by omega)]; rfl)
    go_wp2
    go_ret
    exact ⟨by rw [HN.out]; rfl, by rw [HS.out]; exact HB.out⟩
  by_cases h2 : 20 < op
  · have HN : Hid (fpF ⟨op, sort, name, num, kids⟩ = false) := Lib.hid (by rw [HF.out, decide_eq_false (p := op ≤ 20) (by omega)]; simp)
    go_wp2
    go_ret
    exact ⟨by rw [HN.out]; rfl, by rw [HS.out]; exact HB.out⟩
  by_cases h3 : kids < lo
  · have HN : Hid (fpF ⟨op, sort, name, num, kids⟩ = false) := Lib.hid (by rw [HF.out, decide_eq_false (p := lo ≤ kids) (by omega)]; simp)
    go_wp2
    go_ret
    exact ⟨by rw [HN.out]; rfl, by rw [HS.out]; exact HB.out⟩
  by_cases h4 : hi < kids
  · have HN : Hid (fpF ⟨op, sort, name, num, kids⟩ = false) := Lib.hid (by rw [HF.out, decide_eq_false (p := kids ≤ hi) (by omega)]; simp)
    go_wp2
    go_ret
    exact ⟨by rw [HN.out]; rfl, by rw [HS.out]; exact HB.out⟩
  have HG : Hid (fpF ⟨op, sort, name, num, kids⟩ = fdF ⟨op, sort, name, num, kids⟩) := Lib.hid (by rw [HF.out, decide_eq_true (by omega), decide_eq_true (by omega), decide_eq_true (by omega), decide_eq_true (by omega)]; simp)
  clear HF
  have hq1 : 1 ≤ op := by omega
  have hq2 : op ≤ 20 := by omega
  by_cases e3 : op = 3
  · subst e3
    have HD : Hid (fpF ⟨3, sort, name, num, kids⟩ = ((sort == 2 || sort == 3) && (name.toList.isEmpty && (vN num && (sort == 3 || iN num))))) := Lib.hid (by rw [HG.out]; rfl)
    clear HG
    have hv := valid_q num w2 hs HE.out
    by_cases s3 : sort = 3
    · subst s3
      cases hnm : name.toList.isEmpty
      · have HN : Hid (fpF ⟨3, 3, name, num, kids⟩ = false) := Lib.hid (by rw [HD.out]; simp [hnm])
        go_wp2
        go_ret
        exact ⟨by rw [HN.out]; rfl, by rw [HS.out]; exact HB.out⟩
      · cases hvn : vN num
        all_goals rw [hvn] at hv
        · go_wp2_with fail
          refine hv.mono ?_
          rintro e w3 ⟨rfl, hb3⟩
          have HB3 := Lib.hid (HB.out.trans (hb3.mono hS2))
          have hS3 := Nat.le_trans hS2 hb3.size
          have HEHB3 := Lib.hid (HE.out.far hb3)
          have d1 := (hb3.cell (p := ⟨S, 1, none⟩) hl).trans c1
          have d3 := (hb3.cell (p := ⟨S, 3, none⟩) hl).trans c3
          clear hb3
          have HN : Hid (fpF ⟨3, 3, name, num, kids⟩ = false) := Lib.hid (by rw [HD.out]; simp [hnm, hvn])
          go_wp2
          go_ret
          exact ⟨by rw [HN.out]; rfl, by rw [HS.out]; exact HB3.out⟩
        · go_wp2_with fail
          refine hv.mono ?_
          rintro e w3 ⟨rfl, hb3⟩
          have HB3 := Lib.hid (HB.out.trans (hb3.mono hS2))
          have hS3 := Nat.le_trans hS2 hb3.size
          have HEHB3 := Lib.hid (HE.out.far hb3)
          have d1 := (hb3.cell (p := ⟨S, 1, none⟩) hl).trans c1
          have d3 := (hb3.cell (p := ⟨S, 3, none⟩) hl).trans c3
          clear hb3
          have HN : Hid (fpF ⟨3, 3, name, num, kids⟩ = true) := Lib.hid (by rw [HD.out]; simp [hnm, hvn])
          go_wp2
          go_ret
          exact ⟨by rw [HN.out]; rfl, by rw [HS.out]; exact HB3.out⟩
    · by_cases s2 : sort = 2
      · subst s2
        cases hnm : name.toList.isEmpty
        · have HN : Hid (fpF ⟨3, 2, name, num, kids⟩ = false) := Lib.hid (by rw [HD.out]; simp [hnm])
          go_wp2
          go_ret
          exact ⟨by rw [HN.out]; rfl, by rw [HS.out]; exact HB.out⟩
        · cases hvn : vN num
          all_goals rw [hvn] at hv
          · go_wp2_with fail
            refine hv.mono ?_
            rintro e w3 ⟨rfl, hb3⟩
            have HB3 := Lib.hid (HB.out.trans (hb3.mono hS2))
            have hS3 := Nat.le_trans hS2 hb3.size
            have HEHB3 := Lib.hid (HE.out.far hb3)
            have d1 := (hb3.cell (p := ⟨S, 1, none⟩) hl).trans c1
            have d3 := (hb3.cell (p := ⟨S, 3, none⟩) hl).trans c3
            clear hb3
            have HN : Hid (fpF ⟨3, 2, name, num, kids⟩ = false) := Lib.hid (by rw [HD.out]; simp [hnm, hvn])
            go_wp2
            go_ret
            exact ⟨by rw [HN.out]; rfl, by rw [HS.out]; exact HB3.out⟩
          · go_wp2_with fail
            refine hv.mono ?_
            rintro e w3 ⟨rfl, hb3⟩
            have HB3 := Lib.hid (HB.out.trans (hb3.mono hS2))
            have hS3 := Nat.le_trans hS2 hb3.size
            have HEHB3 := Lib.hid (HE.out.far hb3)
            have d1 := (hb3.cell (p := ⟨S, 1, none⟩) hl).trans c1
            have d3 := (hb3.cell (p := ⟨S, 3, none⟩) hl).trans c3
            clear hb3
            have hi2 := isInt_q num w3 hs HEHB3.out
            cases hin : iN num
            all_goals rw [hin] at hi2
            · go_wp2_with fail
              refine hi2.mono ?_
              rintro e w4 ⟨rfl, hb4⟩
              have HB4 := Lib.hid (HB3.out.trans (hb4.mono hS3))
              have hS4 := Nat.le_trans hS3 hb4.size
              have HEHB4 := Lib.hid (HEHB3.out.far hb4)
              clear hb4
              have HN : Hid (fpF ⟨3, 2, name, num, kids⟩ = false) := Lib.hid (by rw [HD.out]; simp [hnm, hvn, hin])
              go_wp2
              go_ret
              exact ⟨by rw [HN.out]; rfl, by rw [HS.out]; exact HB4.out⟩
            · go_wp2_with fail
              refine hi2.mono ?_
              rintro e w4 ⟨rfl, hb4⟩
              have HB4 := Lib.hid (HB3.out.trans (hb4.mono hS3))
              have hS4 := Nat.le_trans hS3 hb4.size
              have HEHB4 := Lib.hid (HEHB3.out.far hb4)
              clear hb4
              have HN : Hid (fpF ⟨3, 2, name, num, kids⟩ = true) := Lib.hid (by rw [HD.out]; simp [hnm, hvn, hin])
              go_wp2
              go_ret
              exact ⟨by rw [HN.out]; rfl, by rw [HS.out]; exact HB4.out⟩
      · have e2 : (sort == 2) = false := by simp [s2]
        have e3 : (sort == 3) = false := by simp [s3]
        have HN : Hid (fpF ⟨3, sort, name, num, kids⟩ = false) := Lib.hid (by rw [HD.out]; simp [s2, s3])
        go_wp2
        go_ret
        exact ⟨by rw [HN.out]; rfl, by rw [HS.out]; exact HB.out⟩
  by_cases e4 : op = 4 ∨ op = 5
  · have HD : Hid (fpF ⟨op, sort, name, num, kids⟩ = (srF sort && (nameF name.toList && num.toList.isEmpty))) := Lib.hid (by rw [HG.out]; unfold fdF; simp only; rw [if_neg e3, if_pos e4])
    clear HG e3
    have hsr := isSort_any sort w2
    rw [show (decide (1 ≤ sort) && decide (sort ≤ 4)) = srF sort from rfl] at hsr
    have hnm := isName_any name w2
    cases h5 : srF sort
    all_goals rw [h5] at hsr
    · rcases e4 with rfl | rfl
      all_goals
        go_wp2_with fail
        refine hsr.mono ?_
        rintro e w3 ⟨rfl, rfl⟩
        have HN := Lib.hid (HD.out.trans (show _ = false by simp [h5]))
        go_wp2
        go_ret
        exact ⟨by rw [HN.out]; rfl, by rw [HS.out]; exact HB.out⟩
    · cases h6 : nameF name.toList
      all_goals rw [h6] at hnm
      · rcases e4 with rfl | rfl
        all_goals
          go_wp2_with fail
          refine hsr.mono ?_
          rintro e w3 ⟨rfl, rfl⟩
          go_wp2_with fail
          refine hnm.mono ?_
          rintro e w3 ⟨rfl, rfl⟩
          have HN := Lib.hid (HD.out.trans (show _ = false by simp [h5, h6]))
          go_wp2
          go_ret
          exact ⟨by rw [HN.out]; rfl, by rw [HS.out]; exact HB.out⟩
      · rcases e4 with rfl | rfl
        all_goals
          go_wp2_with fail
          refine hsr.mono ?_
          rintro e w3 ⟨rfl, rfl⟩
          go_wp2_with fail
          refine hnm.mono ?_
          rintro e w3 ⟨rfl, rfl⟩
          have HN := Lib.hid (HD.out.trans (show _ = num.toList.isEmpty by simp only [h5, h6, Bool.true_and]))
          go_wp2
          go_ret
          exact ⟨by rw [HN.out]; rfl, by rw [HS.out]; exact HB.out⟩
  by_cases e16 : op = 16 ∨ op = 17
  · have HD : Hid (fpF ⟨op, sort, name, num, kids⟩ = (sort == 0 && (name.toList.isEmpty && (iN num && decide (0 < sN num))))) := Lib.hid (by rw [HG.out]; unfold fdF; simp only; rw [if_neg e3, if_neg e4, if_pos e16])
    clear HG e3 e4
    have hi2 := isInt_q num w2 hs HE.out
    by_cases s0 : sort = 0
    · subst s0
      cases hnm : name.toList.isEmpty
      · rcases e16 with rfl | rfl
        all_goals
          have HN := Lib.hid (HD.out.trans (show _ = false by simp [hnm]))
          go_wp2
          go_ret
          exact ⟨by rw [HN.out]; rfl, by rw [HS.out]; exact HB.out⟩
      · cases hin : iN num
        all_goals rw [hin] at hi2
        · rcases e16 with rfl | rfl
          all_goals
            have HN := Lib.hid (HD.out.trans (show _ = false by simp [hnm, hin]))
            go_wp2_with fail
            refine hi2.mono ?_
            rintro e w3 ⟨rfl, hb3⟩
            have HB3 := Lib.hid (HB.out.trans (hb3.mono hS2))
            clear hb3
            go_wp2
            go_ret
            exact ⟨by rw [HN.out]; rfl, by rw [HS.out]; exact HB3.out⟩
        · rcases e16 with rfl | rfl
          all_goals
            have HN := Lib.hid (HD.out.trans (show _ = decide (0 < sN num) by simp [hnm, hin]))
            go_wp2_with fail
            refine hi2.mono ?_
            rintro e w3 ⟨rfl, hb3⟩
            have hg3 := sign_q num w3 hs (HE.out.far hb3)
            have c3' := (hb3.cell (p := ⟨S, 3, none⟩) hl).trans c3
            have HB3 := Lib.hid (HB.out.trans (hb3.mono hS2))
            have hS3 := Nat.le_trans hS2 hb3.size
            clear hb3
            go_wp2_with fail
            refine hg3.mono ?_
            rintro e w4 ⟨rfl, hb4⟩
            have HB4 := Lib.hid (HB3.out.trans (hb4.mono hS3))
            clear hb4
            go_wp2
            go_ret
            exact ⟨by rw [HN.out]; rfl, by rw [HS.out]; exact HB4.out⟩
    · have e0 : (sort == 0) = false := by simp [s0]
      rcases e16 with rfl | rfl
      all_goals
        have HN := Lib.hid (HD.out.trans (show _ = false by simp [s0]))
        go_wp2
        go_ret
        exact ⟨by rw [HN.out]; rfl, by rw [HS.out]; exact HB.out⟩
  have HD : Hid (fpF ⟨op, sort, name, num, kids⟩ = (sort == 0 && (name.toList.isEmpty && num.toList.isEmpty))) := Lib.hid (by rw [HG.out]; unfold fdF; simp only; rw [if_neg e3, if_neg e4, if_neg e16])
  have g3 : (op == 3) = false := by simp; omega
  have g4 : (op == 4) = false := by simp; omega
  have g5 : (op == 5) = false := by simp; omega
  have g16 : (op == 16) = false := by simp; omega
  have g17 : (op == 17) = false := by simp; omega
  clear HG e3 e4 e16
  by_cases s0 : sort = 0
  · subst s0
    cases hnm : name.toList.isEmpty
    · have HN := Lib.hid (HD.out.trans (show _ = false by simp [hnm]))
      go_wp2
      go_ret
      exact ⟨by rw [HN.out]; rfl, by rw [HS.out]; exact HB.out⟩
    · have HN := Lib.hid (HD.out.trans (show _ = num.toList.isEmpty by simp [hnm]))
      go_wp2
      go_ret
      exact ⟨by rw [HN.out]; rfl, by rw [HS.out]; exact HB.out⟩
  · have e0 : (sort == 0) = false := by simp [s0]
    have HN := Lib.hid (HD.out.trans (show _ = false by simp [s0]))
    go_wp2
    go_ret
    exact ⟨by rw [HN.out]; rfl, by rw [HS.out]; exact HB.out⟩
end
end Go.Proofs.YthefknoicelhaaaGreatDoor.Se

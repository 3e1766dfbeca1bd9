/- small; ValidConstraint of the program and of the reference at any texts. -/
import Derived.Test.YteoklapcifonaaaGreatDoorWHB
import Derived.Test.YteoklapcifonaaaGreatDoorWLU
namespace Go.Proofs.YteoklapcifonaaaGreatDoor
open Go.RowKit Nmx

/-- a text is one of an integer; the sign of its number -/
def intB (t : ByteArray) : Bool := match ratF t.data.toList with | some q => decide (q.den = 1) | none => false
def sgB (t : ByteArray) : Int := sgnI ((ratF t.data.toList).getD 0).num
/-- a constraint is valid -/
def conV (V : Bool) (r s : Int) (tm : ByteArray) : Bool := V && (if r = 1 ∨ r = 2 ∨ r = 3 then tm.toList == [] else if r = 4 ∨ r = 5 then s == 2 && intB tm && decide (0 < sgB tm) else false)
/-- the statement's own bound -/
def smallF (rs : List (ByteArray × ByteArray)) (t : ByteArray) : Bool := decide (rs.length ≤ 8) && decide (t.size ≤ 40) && rs.all fun x => decide (x.1.size ≤ 60) && decide (x.2.size ≤ 40)
theorem smallF_shrt {rs : List (ByteArray × ByteArray)} {t : ByteArray} (h : smallF rs t = true) : Shrt rs t := by
  unfold smallF at h;rw [Bool.and_eq_true, Bool.and_eq_true, List.all_eq_true] at h;refine ⟨of_decide_eq_true h.1.1, of_decide_eq_true h.1.2, fun x hx => ?_⟩;have := h.2 x hx;rw [Bool.and_eq_true] at this;exact ⟨of_decide_eq_true this.1, of_decide_eq_true this.2⟩
theorem smallF_no {rs : List (ByteArray × ByteArray)} {t : ByteArray} {x : ByteArray × ByteArray} (hx : x ∈ rs) (h : 60 < x.1.size ∨ 40 < x.2.size) : smallF rs t = false := by
  unfold smallF;rw [Bool.and_eq_false_iff];refine .inr (List.all_eq_false.2 ⟨x, hx, ?_⟩);rcases h with h | h
  · rw [decide_eq_false (by omega)]; simp
  · rw [decide_eq_false (show ¬ x.2.size ≤ 40 by omega)]; simp
section
set_option maxRecDepth 100000
set_option maxHeartbeats 8000000
theorem small_any {w : World} {s : Int} {ao : Option Addr} {g off cap : Nat} {rs : List (ByteArray × ByteArray)} {t : ByteArray} (hC : RSl w ao g off cap rs) :
    Calls Tryz.prog 28 #[.agg #[.int .i64 s, .slice ao rs.length cap, .string t]] w fun e w' => e = .returned (.bool (smallF rs t)) ∧ Below w.heap.size w w' := by
  have hle := hC.le;have hmost := hC.most;have HH := Lib.hid hC;have HNO : Hid (∀ i (h : i < rs.length), 60 < rs[i].1.size ∨ 40 < rs[i].2.size → smallF rs t = false) := Lib.hid fun i h => smallF_no (List.getElem_mem h)
  have HL : Hid (8 < rs.length ∨ 40 < t.size → smallF rs t = false) := Lib.hid fun h => by
    unfold smallF;rcases h with h | h
    · rw [decide_eq_false (by omega)]; rfl
    · rw [decide_eq_false (show ¬ t.size ≤ 40 by omega), Bool.and_false]; rfl
  have HYES : Hid (rs.length ≤ 8 → t.size ≤ 40 → (∀ i (h : i < rs.length), rs[i].1.size ≤ 60 ∧ rs[i].2.size ≤ 40) → smallF rs t = true) := Lib.hid fun h1 h2 h3 => by
    unfold smallF;rw [decide_eq_true h1, decide_eq_true h2, Bool.true_and, Bool.true_and, List.all_eq_true];intro x hx;obtain ⟨i, hi, rfl⟩ := List.getElem_of_mem hx;rw [decide_eq_true (h3 i hi).1, decide_eq_true (h3 i hi).2]; rfl
  have HB := Lib.hid (alloc_far w (.cells #[.int .i64 s, .slice ao rs.length cap, .string t] 26));have HX := Lib.hid (heap_alloc_new w (.cells #[.int .i64 s, .slice ao rs.length cap, .string t] 26));obtain ⟨V, hV⟩ : ∃ V, smallF rs t = V := ⟨_, rfl⟩
  rw [hV] at HNO HL HYES ⊢;obtain ⟨n, hn⟩ : ∃ n, rs.length = n := ⟨_, rfl⟩
  have HN := Lib.hid hn;rw [hn] at hle HB HX;rw [hn];clear hC hn hV
  go_enter Tryz.func28, Tryz.ntmps28
  by_cases h8 : 8 < n
  · have hi8 : (8 : Int) < (n : Int) := by omega
    obtain rfl : false = V := (HL.out (.inl (by rw [HN.out]; exact h8))).symm
    go_wp2
    go_ret
    exact ⟨rfl, HB.out⟩
  have hi8 : ¬ (8 : Int) < (n : Int) := by omega
  by_cases h40 : 40 < t.size
  · have hi40 : (40 : Int) < (t.size : Int) := by omega
    obtain rfl : false = V := (HL.out (.inr h40)).symm
    go_wp2
    go_ret
    exact ⟨rfl, HB.out⟩
  have hi40 : ¬ (40 : Int) < (t.size : Int) := by omega
  go_wp2_with fail
  generalize w.alloc (.cells #[.int .i64 s, .slice ao n cap, .string t] 26) = w1 at *
  go_loopg [3] n (fun gh iv wr => ∃ k : Nat, gh = n - k ∧ k ≤ n ∧ iv = .int .i64 k ∧ wr = w1 ∧ ∀ i (h : i < rs.length), i < k → rs[i].1.size ≤ 60 ∧ rs[i].2.size ≤ 40)
  case atStart => exact ⟨0, rfl, Nat.zero_le _, rfl, rfl, fun i _ hi => absurd hi (Nat.not_lt_zero i)⟩
  case round =>
    obtain ⟨k, rfl, hk, rfl, rfl, hall⟩ := hrel;have HALL := Lib.hid hall;clear hall;have x1 := heap_cell HX.out 1;have hki0 : (0 : Int) ≤ (k : Int) := by omega
    by_cases hlt : k < n
    · have had := HH.out.ad (by omega);subst had;have hl : k < rs.length := by rw [HN.out]; exact hlt
      have hlti : (k : Int) < (n : Int) := by omega
      have c0 := (HH.out.far HB.out).nm k hl;have c1 := (HH.out.far HB.out).nu k hl;have hno := HNO.out k hl
      have hst : ∀ i (h : i < rs.length), i < k + 1 → (rs[k]'hl).1.size ≤ 60 → (rs[k]'hl).2.size ≤ 40 → rs[i].1.size ≤ 60 ∧ rs[i].2.size ≤ 40 := fun i h hi h1 h2 => by
        by_cases hik : i = k
        · subst hik; exact ⟨h1, h2⟩
        · exact HALL.out i h (by omega)
      have HST := Lib.hid hst;clear hst;generalize rs[k] = x at *;obtain ⟨t0, t1⟩ := x
      dsimp only at *
      by_cases h60 : 60 < t0.size
      · have hi60 : (60 : Int) < (t0.size : Int) := by omega
        obtain rfl : false = V := (hno (.inl h60)).symm;clear hno
        go_wp2
        go_ret
        exact ⟨rfl, HB.out⟩
      have hi60 : ¬ (60 : Int) < (t0.size : Int) := by omega
      by_cases h41 : 40 < t1.size
      · have hi41 : (40 : Int) < (t1.size : Int) := by omega
        obtain rfl : false = V := (hno (.inr h41)).symm;clear hno
        go_wp2
        go_ret
        exact ⟨rfl, HB.out⟩
      have hi41 : ¬ (40 : Int) < (t1.size : Int) := by omega
      clear hno
      go_wp2
      go_roundg (n - (k + 1))
      case rel => exact ⟨k + 1, rfl, by omega, by go_num, rfl, fun i h hi => HST.out i h hi (by omega) (by omega)⟩
      case measure => omega
    · obtain rfl : k = n := by omega
      have hlti : ¬ ((k : Int) < (k : Int)) := by omega
      obtain rfl : true = V := (HYES.out (by rw [HN.out]; omega) (by omega) (fun i h => HALL.out i h (by rw [← HN.out]; exact h))).symm
      go_wp2
      go_ret
      exact ⟨rfl, HB.out⟩
theorem conR {w : World} {r s : Int} {ao : Option Addr} {n cap : Nat} {t tm : ByteArray} {V : Bool} (hv : ∀ W, Below w.heap.size w W → Calls Tryz.prog 29 #[.agg #[.int .i64 s, .slice ao n cap, .string t]] W fun e w' => e = .returned (.bool V) ∧ Below W.heap.size W w') (hm : tm.size ≤ 1000) (hE : Env w) :
    Calls Tryz.prog 31 #[.agg #[.int .i64 r, .int .i64 s, .slice ao n cap, .string t, .string tm]] w fun e w' => e = .returned (.bool (conV V r s tm)) ∧ Below w.heap.size w w' := by
  have hi : ∀ W, Below w.heap.size w W → Calls Tryz.prog 25 #[.string tm] W fun e w' => e = .returned (.bool (intB tm)) ∧ Below W.heap.size W w' := fun W (hW : Below w.heap.size w W) => numIsInt_any tm W (by omega) (hE.far hW) (gcdAt_any (by rw [size_data]; omega))
  have hg : ∀ W, Below w.heap.size w W → Calls Tryz.prog 74 #[.string tm] W fun e w' => e = .returned (.int .i64 (sgB tm)) ∧ Below W.heap.size W w' := fun W (hW : Below w.heap.size w W) => numSign_any tm W (by omega) (hE.far hW) (gcdAt_any (by rw [size_data]; omega))
  have hem : tm.toList.isEmpty = (tm.toList == []) := by cases tm.toList <;> rfl
  unfold conV;obtain ⟨bi, hbi⟩ : ∃ b, intB tm = b := ⟨_, rfl⟩
  obtain ⟨sg, hsg⟩ : ∃ b, sgB tm = b := ⟨_, rfl⟩
  obtain ⟨be, hbe⟩ : ∃ b, (tm.toList == []) = b := ⟨_, rfl⟩
  rw [hbi] at hi ⊢;rw [hsg] at hg ⊢;rw [hbe] at hem ⊢;obtain ⟨VV, hVV⟩ : ∃ b, (V && (if r = 1 ∨ r = 2 ∨ r = 3 then be else if r = 4 ∨ r = 5 then s == 2 && bi && decide (0 < sg) else false)) = b := ⟨_, rfl⟩
  rw [hVV];have HV := Lib.hid hv;have HI := Lib.hid hi;have HG := Lib.hid hg;have HEM := Lib.hid hem;have HBE := Lib.hid hbe;have HVV := Lib.hid hVV;have HA := Lib.hid (heap_alloc_new w (.cells #[.int .i64 r, .int .i64 s, .slice ao n cap, .string t, .string tm] 39));have HB := Lib.hid (alloc_far w (.cells #[.int .i64 r, .int .i64 s, .slice ao n cap, .string t, .string tm] 39));clear hv hi hg hem hbe hVV hbi hsg hE
  go_enter Tryz.func31, Tryz.ntmps31
  go_wp2_with fail
  refine (HV.out _ HB.out).mono ?_;rintro e w1 ⟨rfl, hb⟩;replace HA := Lib.hid ((hb.block _ (lt_of_heap HA.out)).trans HA.out);replace HB := Lib.hid (HB.out.trans (hb.mono HB.out.size));clear hb HV;cases V with
  | false =>
    obtain rfl : false = VV := by rw [← HVV.out]; rfl
    go_wp2
    go_ret
    exact ⟨rfl, HB.out⟩
  | true =>
    have hvv := HVV.out;rw [Bool.true_and] at hvv;have p0 := heap_cell HA.out 0;have p1 := heap_cell HA.out 1;have p4 := heap_cell HA.out 4
    by_cases h1 : r = 1 ∨ r = 2 ∨ r = 3
    · rw [if_pos h1] at hvv;subst hvv;have he1 := HEM.out;have he2 := HBE.out;rcases h1 with rfl | rfl | rfl
      all_goals
        go_wp2
        go_ret
        exact ⟨rfl, HB.out⟩
    · rw [if_neg h1] at hvv
      by_cases h4 : r = 4 ∨ r = 5
      · rw [if_pos h4] at hvv;have HW := Lib.hid hvv;clear hvv h1
        by_cases hs : s = 2
        · subst hs;rcases h4 with rfl | rfl
          all_goals
            go_wp2_with fail
            refine (HI.out _ HB.out).mono ?_;rintro e w2 ⟨rfl, hb⟩;replace HA := Lib.hid ((hb.block _ (lt_of_heap HA.out)).trans HA.out);replace HB := Lib.hid (HB.out.trans (hb.mono HB.out.size));clear hb p0 p1 p4;have p4 := heap_cell HA.out 4;cases bi with
            | false =>
              obtain rfl : false = VV := by rw [← HW.out]; rfl
              go_wp2
              go_ret
              exact ⟨rfl, HB.out⟩
            | true =>
              have hw2 : decide (0 < sg) = VV := by rw [← HW.out]; rfl
              go_wp2_with fail
              refine (HG.out _ HB.out).mono ?_;rintro e w3 ⟨rfl, hb⟩;replace HB := Lib.hid (HB.out.trans (hb.mono HB.out.size));clear hb p4 HA;have HW2 := Lib.hid hw2;clear hw2
              go_wp2
              go_ret
              exact ⟨by rw [← HW2.out]; rfl, HB.out⟩
        · have hs1 : (s == 2) = false := by rw [beq_eq_false_iff_ne]; exact hs
          have hs2 : decide (s = 2) = false := decide_eq_false hs;obtain rfl : false = VV := by rw [← HW.out, hs1]; rfl
          rcases h4 with rfl | rfl
          all_goals
            go_wp2
            go_ret
            exact ⟨rfl, HB.out⟩
      · rw [if_neg h4] at hvv;subst hvv;have q1 : (r == 1) = false := by rw [beq_eq_false_iff_ne]; omega
        have q2 : (r == 2) = false := by rw [beq_eq_false_iff_ne]; omega
        have q3 : (r == 3) = false := by rw [beq_eq_false_iff_ne]; omega
        have q4 : (r == 4) = false := by rw [beq_eq_false_iff_ne]; omega
        have q5 : (r == 5) = false := by rw [beq_eq_false_iff_ne]; omega
        have d1 : decide (r = 1) = false := decide_eq_false (by omega);have d2 : decide (r = 2) = false := decide_eq_false (by omega);have d3 : decide (r = 3) = false := decide_eq_false (by omega);have d4 : decide (r = 4) = false := decide_eq_false (by omega);have d5 : decide (r = 5) = false := decide_eq_false (by omega);clear h1 h4
        go_wp2
        go_ret
        exact ⟨rfl, HB.out⟩
theorem refConR {w : World} {r s : Int} {ao : Option Addr} {n cap : Nat} {t tm : ByteArray} {V : Bool} (hv : ∀ W, Below w.heap.size w W → Calls Tryz.prog 30 #[.agg #[.int .i64 s, .slice ao n cap, .string t]] W fun e w' => e = .returned (.bool V) ∧ Below W.heap.size W w') (hm : tm.size ≤ 1000) :
    Calls Tryz.prog 32 #[.agg #[.int .i64 r, .int .i64 s, .slice ao n cap, .string t, .string tm]] w fun e w' => e = .returned (.bool (conV V r s tm)) ∧ Below w.heap.size w w' := by
  have hi : ∀ W, Below w.heap.size w W → Calls Tryz.prog 41 #[.string tm] W fun e w' => e = .returned (.bool (intB tm)) ∧ Below W.heap.size W w' := fun W (_ : Below w.heap.size w W) => refIsInt_any tm W (by omega)
  have hg : ∀ W, Below w.heap.size w W → Calls Tryz.prog 75 #[.string tm] W fun e w' => e = .returned (.int .i64 (sgB tm)) ∧ Below W.heap.size W w' := fun W (_ : Below w.heap.size w W) => refSign_any tm W (by omega)
  have hem : tm.toList.isEmpty = (tm.toList == []) := by cases tm.toList <;> rfl
  unfold conV;obtain ⟨bi, hbi⟩ : ∃ b, intB tm = b := ⟨_, rfl⟩
  obtain ⟨sg, hsg⟩ : ∃ b, sgB tm = b := ⟨_, rfl⟩
  obtain ⟨be, hbe⟩ : ∃ b, (tm.toList == []) = b := ⟨_, rfl⟩
  rw [hbi] at hi ⊢;rw [hsg] at hg ⊢;rw [hbe] at hem ⊢;obtain ⟨VV, hVV⟩ : ∃ b, (V && (if r = 1 ∨ r = 2 ∨ r = 3 then be else if r = 4 ∨ r = 5 then s == 2 && bi && decide (0 < sg) else false)) = b := ⟨_, rfl⟩
  rw [hVV];have HV := Lib.hid hv;have HI := Lib.hid hi;have HG := Lib.hid hg;have HEM := Lib.hid hem;have HBE := Lib.hid hbe;have HVV := Lib.hid hVV;have HA := Lib.hid (heap_alloc_new w (.cells #[.int .i64 r, .int .i64 s, .slice ao n cap, .string t, .string tm] 39));have HB := Lib.hid (alloc_far w (.cells #[.int .i64 r, .int .i64 s, .slice ao n cap, .string t, .string tm] 39));clear hv hi hg hem hbe hVV hbi hsg
  go_enter Tryz.func32, Tryz.ntmps32
  go_wp2_with fail
  refine (HV.out _ HB.out).mono ?_;rintro e w1 ⟨rfl, hb⟩;replace HA := Lib.hid ((hb.block _ (lt_of_heap HA.out)).trans HA.out);replace HB := Lib.hid (HB.out.trans (hb.mono HB.out.size));clear hb HV;cases V with
  | false =>
    obtain rfl : false = VV := by rw [← HVV.out]; rfl
    go_wp2
    go_ret
    exact ⟨rfl, HB.out⟩
  | true =>
    have hvv := HVV.out;rw [Bool.true_and] at hvv;have p0 := heap_cell HA.out 0;have p1 := heap_cell HA.out 1;have p4 := heap_cell HA.out 4
    by_cases h1 : r = 1 ∨ r = 2 ∨ r = 3
    · rw [if_pos h1] at hvv;subst hvv;have he1 := HEM.out;have he2 := HBE.out;rcases h1 with rfl | rfl | rfl
      all_goals
        go_wp2
        go_ret
        exact ⟨rfl, HB.out⟩
    · rw [if_neg h1] at hvv
      by_cases h4 : r = 4 ∨ r = 5
      · rw [if_pos h4] at hvv;have HW := Lib.hid hvv;clear hvv h1
        by_cases hs : s = 2
        · subst hs;rcases h4 with rfl | rfl
          all_goals
            go_wp2_with fail
            refine (HI.out _ HB.out).mono ?_;rintro e w2 ⟨rfl, hb⟩;replace HA := Lib.hid ((hb.block _ (lt_of_heap HA.out)).trans HA.out);replace HB := Lib.hid (HB.out.trans (hb.mono HB.out.size));clear hb p0 p1 p4;have p4 := heap_cell HA.out 4;cases bi with
            | false =>
              obtain rfl : false = VV := by rw [← HW.out]; rfl
              go_wp2
              go_ret
              exact ⟨rfl, HB.out⟩
            | true =>
              have hw2 : decide (0 < sg) = VV := by rw [← HW.out]; rfl
              go_wp2_with fail
              refine (HG.out _ HB.out).mono ?_;rintro e w3 ⟨rfl, hb⟩;replace HB := Lib.hid (HB.out.trans (hb.mono HB.out.size));clear hb p4 HA;have HW2 := Lib.hid hw2;clear hw2
              go_wp2
              go_ret
              exact ⟨by rw [← HW2.out]; rfl, HB.out⟩
        · have hs1 : (s == 2) = false := by rw [beq_eq_false_iff_ne]; exact hs
          have hs2 : decide (s = 2) = false := decide_eq_false hs;obtain rfl : false = VV := by rw [← HW.out, hs1]; rfl
          rcases h4 with rfl | rfl
          all_goals
            go_wp2
            go_ret
            exact ⟨rfl, HB.out⟩
      · rw [if_neg h4] at hvv;subst hvv;have q1 : (r == 1) = false := by rw [beq_eq_false_iff_ne]; omega
        have q2 : (r == 2) = false := by rw [beq_eq_false_iff_ne]; omega
        have q3 : (r == 3) = false := by rw [beq_eq_false_iff_ne]; omega
        have q4 : (r == 4) = false := by rw [beq_eq_false_iff_ne]; omega
        have q5 : (r == 5) = false := by rw [beq_eq_false_iff_ne]; omega
        have d1 : decide (r = 1) = false := decide_eq_false (by omega);have d2 : decide (r = 2) = false := decide_eq_false (by omega);have d3 : decide (r = 3) = false := decide_eq_false (by omega);have d4 : decide (r = 4) = false := decide_eq_false (by omega);have d5 : decide (r = 5) = false := decide_eq_false (by omega);clear h1 h4
        go_wp2
        go_ret
        exact ⟨rfl, HB.out⟩
end
end Go.Proofs.YteoklapcifonaaaGreatDoor

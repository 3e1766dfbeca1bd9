/- small; ValidConstraint of the program and of the reference at any texts. -/
import Derived.Test.YteoklapcifonaaaGreatDoorVHB
import Derived.Test.YteoklapcifonaaaGreatDoorVLU
open Go.Lib (hid)
namespace Go.Proofs.YteoklapcifonaaaGreatDoor
open Go.RowKit Nmx
def sgB (t : ByteArray) : Int := sgnI ((ratF t.data.toList).getD 0).num
/-- the statement's own bound -/
def smallF (rs : List (ByteArray × ByteArray)) (t : ByteArray) : Bool := decide (rs.length ≤ 8) && decide (t.size ≤ 40) && rs.all fun x => decide (x.1.size ≤ 60) && decide (x.2.size ≤ 40)
theorem smallF_shrt {rs : List (ByteArray × ByteArray)} {t : ByteArray} (h : smallF rs t = true) : Shrt rs t := by
 unfold smallF at h;rw [Bool.and_eq_true, Bool.and_eq_true, List.all_eq_true] at h;refine ⟨of_decide_eq_true h.1.1, of_decide_eq_true h.1.2, fun x hx => ?_⟩;have := h.2 x hx;rw [Bool.and_eq_true] at this;exact ⟨of_decide_eq_true this.1, of_decide_eq_true this.2⟩
theorem smallF_no {rs : List (ByteArray × ByteArray)} {t : ByteArray} {x : ByteArray × ByteArray} (hx : x ∈ rs) (h : 60 < x.1.size ∨ 40 < x.2.size) : smallF rs t = false := by
 unfold smallF;rw [Bool.and_eq_false_iff];refine .inr (List.all_eq_false.2 ⟨x, hx, ?_⟩);rcases h with h | h
 · rw [decide_eq_false (by omega)]; simp
 · rw [decide_eq_false (show ¬ x.2.size ≤ 40 by omega)]; simp
section
set_option maxRecDepth 100000
set_option maxHeartbeats 8000000
theorem small_any {w : World} {s : Int} {ao : Option Addr} {g off cap : Nat} {rs : List (ByteArray × ByteArray)} {t : ByteArray} (hC : RSl w ao g off cap rs) :
    Calls Tryz.prog 28 #[.agg #[.int .i64 s, .slice ao rs.length cap, .string t]] w fun e w' => e = .returned (.bool (smallF rs t)) ∧ Below w.heap.size w w' := by
 have hle := hC.le;have hmost := hC.most;have HH := hid hC;have HNO : Hid (∀ i (h : i < rs.length), 60 < rs[i].1.size ∨ 40 < rs[i].2.size → smallF rs t = false) := hid fun i h => smallF_no (List.getElem_mem h)
 have HL : Hid (8 < rs.length ∨ 40 < t.size → smallF rs t = false) := hid fun h => by
  unfold smallF;rcases h with h | h
  · rw [decide_eq_false (by omega)]; rfl
  · rw [decide_eq_false (show ¬ t.size ≤ 40 by omega), Bool.and_false]; rfl
 have HYES : Hid (rs.length ≤ 8 → t.size ≤ 40 → (∀ i (h : i < rs.length), rs[i].1.size ≤ 60 ∧ rs[i].2.size ≤ 40) → smallF rs t = true) := hid fun h1 h2 h3 => by
  unfold smallF;rw [decide_eq_true h1, decide_eq_true h2, Bool.true_and, Bool.true_and, List.all_eq_true];intro x hx;obtain ⟨i, hi, rfl⟩ := List.getElem_of_mem hx;rw [decide_eq_true (h3 i hi).1, decide_eq_true (h3 i hi).2]; rfl
 have HB := hid (alloc_far w (.cells #[.int .i64 s, .slice ao rs.length cap, .string t] 26));have HX := hid (heap_alloc_new w (.cells #[.int .i64 s, .slice ao rs.length cap, .string t] 26));obtain ⟨V, hV⟩ : ∃ V, smallF rs t = V := ⟨_, rfl⟩
 rw [hV] at HNO HL HYES ⊢;obtain ⟨n, hn⟩ : ∃ n, rs.length = n := ⟨_, rfl⟩
 have HN := hid hn;rw [hn] at hle HB HX;rw [hn];clear hC hn hV
 go_enter Tryz.func28, Tryz.ntmps28
 by_cases h8 : 8 < n
 · have hi8 : (8 : Int) < (n : Int) := by omega
   obtain rfl : false = V := (HL.out (.inl (by rw [HN.out]; exact h8))).symm
   go_wp2
   go_ret
   exact ⟨rfl, HB.out⟩
 have hi8 : ¬ (8 : Int) < (n : Int) := by omega
 by_cases h40 : 40 < t.size
 · have hi40 : (40 : Int) < (t.size : Int) := by omega
   obtain rfl : false = V := (HL.out (.inr h40)).symm
   go_wp2
   go_ret
   exact ⟨rfl, HB.out⟩
 have hi40 : ¬ (40 : Int) < (t.size : Int) := by omega
 go_wp2_with fail
 generalize w.alloc (.cells #[.int .i64 s, .slice ao n cap, .string t] 26) = w1 at *
 go_loopg [3] n (fun gh iv wr => ∃ k : Nat, gh = n - k ∧ k ≤ n ∧ iv = .int .i64 k ∧ wr = w1 ∧ ∀ i (h : i < rs.length), i < k → rs[i].1.size ≤ 60 ∧ rs[i].2.size ≤ 40)
 case atStart => exact ⟨0, rfl, Nat.zero_le _, rfl, rfl, fun i _ hi => absurd hi (Nat.not_lt_zero i)⟩
 case round =>
  obtain ⟨k, rfl, hk, rfl, rfl, hall⟩ := hrel;have HALL := hid hall;clear hall;have x1 := heap_cell HX.out 1;have hki0 : (0 : Int) ≤ (k : Int) := by omega
  by_cases hlt : k < n
  · have had := HH.out.ad (by omega);subst had;have hl : k < rs.length := by rw [HN.out]; exact hlt
    have hlti : (k : Int) < (n : Int) := by omega
    have c0 := (HH.out.far HB.out).nm k hl;have c1 := (HH.out.far HB.out).nu k hl;have hno := HNO.out k hl
    have hst : ∀ i (h : i < rs.length), i < k + 1 → (rs[k]'hl).1.size ≤ 60 → (rs[k]'hl).2.size ≤ 40 → rs[i].1.size ≤ 60 ∧ rs[i].2.size ≤ 40 := fun i h hi h1 h2 => by
     by_cases hik : i = k
     · subst hik; exact ⟨h1, h2⟩
     · exact HALL.out i h (by omega)
    have HST := hid hst;clear hst;generalize rs[k] = x at *;obtain ⟨t0, t1⟩ := x
    dsimp only at *
    by_cases h60 : 60 < t0.size
    · have hi60 : (60 : Int) < (t0.size : Int) := by omega
      obtain rfl : false = V := (hno (.inl h60)).symm;clear hno
      go_wp2
      go_ret
      exact ⟨rfl, HB.out⟩
    have hi60 : ¬ (60 : Int) < (t0.size : Int) := by omega
    by_cases h41 : 40 < t1.size
    · have hi41 : (40 : Int) < (t1.size : Int) := by omega
      obtain rfl : false = V := (hno (.inr h41)).symm;clear hno
      go_wp2
      go_ret
      exact ⟨rfl, HB.out⟩
    have hi41 : ¬ (40 : Int) < (t1.size : Int) := by omega
    clear hno
    go_wp2
    go_roundg (n - (k + 1))
    case rel => exact ⟨k + 1, rfl, by omega, by go_num, rfl, fun i h hi => HST.out i h hi (by omega) (by omega)⟩
    case measure => omega
  · obtain rfl : k = n := by omega
    have hlti : ¬ ((k : Int) < (k : Int)) := by omega
    obtain rfl : true = V := (HYES.out (by rw [HN.out]; omega) (by omega) (fun i h => HALL.out i h (by rw [← HN.out]; exact h))).symm
    go_wp2
    go_ret
    exact ⟨rfl, HB.out⟩
end
end Go.Proofs.YteoklapcifonaaaGreatDoor

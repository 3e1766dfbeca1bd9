/- The sort of a node, the second part: resultSort over any row of sorts. -/
import Derived.Test.YthefknoicelhaaaGreatDoorFUC
namespace Go.Proofs.YthefknoicelhaaaGreatDoor.Se
open Go.RowKit

section
set_option maxHeartbeats 4000000
set_option maxRecDepth 100000
theorem rs_c1 {K : Int} (hK : K = 1 ∨ K = 2 ∨ K = 3 ∨ K = 4 ∨ K = 5) (sort kids : Int) (name num : ByteArray) (ao : Option Addr) (g cap : Nat) (l : List Int) (w : World) (_ : RowI w ao g l) :
    Calls Tryz.prog 79 #[.agg #[.int .i64 K, .int .i64 sort, .string name, .string num, .int .i64 kids], .slice ao l.length cap] w fun e w' => e = .returned (.tuple #[.int .i64 (rsF K sort l).1, .bool (rsF K sort l).2]) ∧ Below w.heap.size w w' := by
  have hb : Below w.heap.size w ((w.alloc (.cells #[.int .i64 K, .int .i64 sort, .string name, .string num, .int .i64 kids] 51)).alloc (.cells #[.slice ao l.length cap] 23)) := ((Below.refl _ _).alloc (Nat.le_refl _) _).alloc (by simp) _
  have HB := Lib.hid hb
  clear hb
  rcases hK with rfl | rfl | rfl | rfl | rfl
  all_goals
    go_enter Tryz.func79, Tryz.ntmps79
    go_wp2
    go_ret2
    exact ⟨rfl, HB.out⟩
theorem rs_c6 {K : Int} (hK : K = 6 ∨ K = 7 ∨ K = 8 ∨ K = 9) (sort kids : Int) (name num : ByteArray) (ao : Option Addr) (g cap : Nat) (l : List Int) (w : World) (hr : RowI w ao g l) :
    Calls Tryz.prog 79 #[.agg #[.int .i64 K, .int .i64 sort, .string name, .string num, .int .i64 kids], .slice ao l.length cap] w fun e w' => e = .returned (.tuple #[.int .i64 (rsF K sort l).1, .bool (rsF K sort l).2]) ∧ Below w.heap.size w w' := by
  have hb : Below w.heap.size w ((w.alloc (.cells #[.int .i64 K, .int .i64 sort, .string name, .string num, .int .i64 kids] 51)).alloc (.cells #[.slice ao l.length cap] 23)) := ((Below.refl _ _).alloc (Nat.le_refl _) _).alloc (by simp) _
  have HB := Lib.hid hb
  have hr2 := hr.far hb
  have hs : ((w.alloc (.cells #[.int .i64 K, .int .i64 sort, .string name, .string num, .int .i64 kids] 51)).alloc (.cells #[.slice ao l.length cap] 23)).cell? ⟨w.heap.size + 1, 0, none⟩ = some (.slice ao l.length cap) := by rw [World.cell?_alloc_at _ _ _ _ (by simp)]; rfl
  have hlt : w.heap.size + 1 < ((w.alloc (.cells #[.int .i64 K, .int .i64 sort, .string name, .string num, .int .i64 kids] 51)).alloc (.cells #[.slice ao l.length cap] 23)).heap.size := by simp
  clear hr hb
  rcases hK with rfl | rfl | rfl | rfl
  all_goals
    go_enter Tryz.func79, Tryz.ntmps79
    go_wp2_with fail
    generalize (w.alloc (.cells #[.int .i64 _, .int .i64 sort, .string name, .string num, .int .i64 kids] 51)).alloc (.cells #[.slice ao l.length cap] 23) = w2 at *
    refine (all_any ao g cap l 1 (w.heap.size + 1) w2 hr2 hs hlt).mono ?_
    rintro e w3 ⟨rfl, hb3⟩
    have HB3 := Lib.hid hb3
    clear hb3
    go_wp2
    go_ret2
    exact ⟨rfl, HB.out.trans (HB3.out.mono HB.out.size)⟩
theorem rs_10 (sort kids : Int) (name num : ByteArray) (ao : Option Addr) (g cap : Nat) (l : List Int) (w : World) (hr : RowI w ao g l) (hlen : 3 ≤ l.length) :
    Calls Tryz.prog 79 #[.agg #[.int .i64 10, .int .i64 sort, .string name, .string num, .int .i64 kids], .slice ao l.length cap] w fun e w' => e = .returned (.tuple #[.int .i64 (rsF 10 sort l).1, .bool (rsF 10 sort l).2]) ∧ Below w.heap.size w w' := by
  have hb : Below w.heap.size w ((w.alloc (.cells #[.int .i64 10, .int .i64 sort, .string name, .string num, .int .i64 kids] 51)).alloc (.cells #[.slice ao l.length cap] 23)) := ((Below.refl _ _).alloc (Nat.le_refl _) _).alloc (by simp) _
  have HB := Lib.hid hb
  have hr2 := hr.far hb
  have hs : ((w.alloc (.cells #[.int .i64 10, .int .i64 sort, .string name, .string num, .int .i64 kids] 51)).alloc (.cells #[.slice ao l.length cap] 23)).cell? ⟨w.heap.size + 1, 0, none⟩ = some (.slice ao l.length cap) := by rw [World.cell?_alloc_at _ _ _ _ (by simp)]; rfl
  have hlt : w.heap.size + 1 < ((w.alloc (.cells #[.int .i64 10, .int .i64 sort, .string name, .string num, .int .i64 kids] 51)).alloc (.cells #[.slice ao l.length cap] 23)).heap.size := by simp
  clear hr hb
  have hao := hr2.at0 (by omega)
  subst hao
  have hc0 := hr2.get (t := 0) (by omega)
  have hc1 := hr2.get (t := 1) (by omega)
  have hc2 := hr2.get (t := 2) (by omega)
  have HF := Lib.hid (show rsF 10 sort l = (l.getD 1 0, l.getD 0 0 == 1 && l.getD 1 0 == l.getD 2 0) from rfl)
  clear hr2
  generalize hl0 : l.getD 0 0 = x0 at *
  generalize hl1 : l.getD 1 0 = x1 at *
  generalize hl2 : l.getD 2 0 = x2 at *
  generalize hn : l.length = n at *
  clear hl0
  clear hl1
  clear hl2
  clear hn
  by_cases hx0 : x0 = 1
  · have hx0t : (x0 == 1) = true := by simp [hx0]
    go_enter Tryz.func79, Tryz.ntmps79
    go_wp2
    go_quiet (fail)
    rename_i nq
    go_wp2
    go_ret2
    exact ⟨by rw [HF.out]; simp [hx0], below_draws HB.out _⟩
  · have hx0t : (x0 == 1) = false := by simp [hx0]
    go_enter Tryz.func79, Tryz.ntmps79
    go_wp2
    go_quiet (fail)
    rename_i nq
    go_wp2
    go_ret2
    exact ⟨by rw [HF.out]; simp [hx0], below_draws HB.out _⟩
theorem rs_11 (sort kids : Int) (name num : ByteArray) (ao : Option Addr) (g cap : Nat) (l : List Int) (w : World) (hr : RowI w ao g l) (hlen : 2 ≤ l.length) :
    Calls Tryz.prog 79 #[.agg #[.int .i64 11, .int .i64 sort, .string name, .string num, .int .i64 kids], .slice ao l.length cap] w fun e w' => e = .returned (.tuple #[.int .i64 (rsF 11 sort l).1, .bool (rsF 11 sort l).2]) ∧ Below w.heap.size w w' := by
  have hb : Below w.heap.size w ((w.alloc (.cells #[.int .i64 11, .int .i64 sort, .string name, .string num, .int .i64 kids] 51)).alloc (.cells #[.slice ao l.length cap] 23)) := ((Below.refl _ _).alloc (Nat.le_refl _) _).alloc (by simp) _
  have HB := Lib.hid hb
  have hr2 := hr.far hb
  have hs : ((w.alloc (.cells #[.int .i64 11, .int .i64 sort, .string name, .string num, .int .i64 kids] 51)).alloc (.cells #[.slice ao l.length cap] 23)).cell? ⟨w.heap.size + 1, 0, none⟩ = some (.slice ao l.length cap) := by rw [World.cell?_alloc_at _ _ _ _ (by simp)]; rfl
  have hlt : w.heap.size + 1 < ((w.alloc (.cells #[.int .i64 11, .int .i64 sort, .string name, .string num, .int .i64 kids] 51)).alloc (.cells #[.slice ao l.length cap] 23)).heap.size := by simp
  clear hr hb
  have hao := hr2.at0 (by omega)
  subst hao
  have hc0 := hr2.get (t := 0) (by omega)
  have hc1 := hr2.get (t := 1) (by omega)
  have HF := Lib.hid (show rsF 11 sort l = (1, l.getD 0 0 == l.getD 1 0) from rfl)
  clear hr2
  generalize hl0 : l.getD 0 0 = x0 at *
  generalize hl1 : l.getD 1 0 = x1 at *
  generalize hn : l.length = n at *
  clear hl0
  clear hl1
  clear hn
  go_enter Tryz.func79, Tryz.ntmps79
  go_wp2
  go_quiet (fail)
  rename_i nq
  go_wp2
  go_ret2
  exact ⟨by rw [HF.out]; rfl, below_draws HB.out _⟩
theorem rs_c16 {K : Int} (hK : K = 16 ∨ K = 17) (sort kids : Int) (name num : ByteArray) (ao : Option Addr) (g cap : Nat) (l : List Int) (w : World) (hr : RowI w ao g l) (hlen : 1 ≤ l.length) :
    Calls Tryz.prog 79 #[.agg #[.int .i64 K, .int .i64 sort, .string name, .string num, .int .i64 kids], .slice ao l.length cap] w fun e w' => e = .returned (.tuple #[.int .i64 (rsF K sort l).1, .bool (rsF K sort l).2]) ∧ Below w.heap.size w w' := by
  have hb : Below w.heap.size w ((w.alloc (.cells #[.int .i64 K, .int .i64 sort, .string name, .string num, .int .i64 kids] 51)).alloc (.cells #[.slice ao l.length cap] 23)) := ((Below.refl _ _).alloc (Nat.le_refl _) _).alloc (by simp) _
  have HB := Lib.hid hb
  have hr2 := hr.far hb
  have hs : ((w.alloc (.cells #[.int .i64 K, .int .i64 sort, .string name, .string num, .int .i64 kids] 51)).alloc (.cells #[.slice ao l.length cap] 23)).cell? ⟨w.heap.size + 1, 0, none⟩ = some (.slice ao l.length cap) := by rw [World.cell?_alloc_at _ _ _ _ (by simp)]; rfl
  have hlt : w.heap.size + 1 < ((w.alloc (.cells #[.int .i64 K, .int .i64 sort, .string name, .string num, .int .i64 kids] 51)).alloc (.cells #[.slice ao l.length cap] 23)).heap.size := by simp
  clear hr hb
  have hao := hr2.at0 (by omega)
  subst hao
  have hc0 := hr2.get (t := 0) (by omega)
  have HF := Lib.hid (show rsF K sort l = (2, l.getD 0 0 == 2) from by rcases hK with rfl | rfl <;> rfl)
  clear hr2
  generalize hl0 : l.getD 0 0 = x0 at *
  generalize hn : l.length = n at *
  clear hl0
  clear hn
  rcases hK with rfl | rfl
  all_goals
    go_enter Tryz.func79, Tryz.ntmps79
    go_wp2
    go_quiet (fail)
    rename_i nq
    go_wp2
    go_ret2
    exact ⟨by rw [HF.out]; rfl, below_draws HB.out _⟩
theorem rs_18 (sort kids : Int) (name num : ByteArray) (ao : Option Addr) (g cap : Nat) (l : List Int) (w : World) (hr : RowI w ao g l) (hlen : 2 ≤ l.length) :
    Calls Tryz.prog 79 #[.agg #[.int .i64 18, .int .i64 sort, .string name, .string num, .int .i64 kids], .slice ao l.length cap] w fun e w' => e = .returned (.tuple #[.int .i64 (rsF 18 sort l).1, .bool (rsF 18 sort l).2]) ∧ Below w.heap.size w w' := by
  have hb : Below w.heap.size w ((w.alloc (.cells #[.int .i64 18, .int .i64 sort, .string name, .string num, .int .i64 kids] 51)).alloc (.cells #[.slice ao l.length cap] 23)) := ((Below.refl _ _).alloc (Nat.le_refl _) _).alloc (by simp) _
  have HB := Lib.hid hb
  have hr2 := hr.far hb
  have hs : ((w.alloc (.cells #[.int .i64 18, .int .i64 sort, .string name, .string num, .int .i64 kids] 51)).alloc (.cells #[.slice ao l.length cap] 23)).cell? ⟨w.heap.size + 1, 0, none⟩ = some (.slice ao l.length cap) := by rw [World.cell?_alloc_at _ _ _ _ (by simp)]; rfl
  have hlt : w.heap.size + 1 < ((w.alloc (.cells #[.int .i64 18, .int .i64 sort, .string name, .string num, .int .i64 kids] 51)).alloc (.cells #[.slice ao l.length cap] 23)).heap.size := by simp
  clear hr hb
  have hao := hr2.at0 (by omega)
  subst hao
  have hc0 := hr2.get (t := 0) (by omega)
  have hc1 := hr2.get (t := 1) (by omega)
  have HF := Lib.hid (show rsF 18 sort l = (2, l.getD 0 0 == 4 && l.getD 1 0 == 2) from rfl)
  clear hr2
  generalize hl0 : l.getD 0 0 = x0 at *
  generalize hl1 : l.getD 1 0 = x1 at *
  generalize hn : l.length = n at *
  clear hl0
  clear hl1
  clear hn
  by_cases hx0 : x0 = 4
  · have hx0t : (x0 == 4) = true := by simp [hx0]
    go_enter Tryz.func79, Tryz.ntmps79
    go_wp2
    go_quiet (fail)
    rename_i nq
    go_wp2
    go_ret2
    exact ⟨by rw [HF.out]; simp [hx0], below_draws HB.out _⟩
  · have hx0t : (x0 == 4) = false := by simp [hx0]
    go_enter Tryz.func79, Tryz.ntmps79
    go_wp2
    go_quiet (fail)
    rename_i nq
    go_wp2
    go_ret2
    exact ⟨by rw [HF.out]; simp [hx0], below_draws HB.out _⟩
theorem rs_19 (sort kids : Int) (name num : ByteArray) (ao : Option Addr) (g cap : Nat) (l : List Int) (w : World) (hr : RowI w ao g l) (hlen : 3 ≤ l.length) :
    Calls Tryz.prog 79 #[.agg #[.int .i64 19, .int .i64 sort, .string name, .string num, .int .i64 kids], .slice ao l.length cap] w fun e w' => e = .returned (.tuple #[.int .i64 (rsF 19 sort l).1, .bool (rsF 19 sort l).2]) ∧ Below w.heap.size w w' := by
  have hb : Below w.heap.size w ((w.alloc (.cells #[.int .i64 19, .int .i64 sort, .string name, .string num, .int .i64 kids] 51)).alloc (.cells #[.slice ao l.length cap] 23)) := ((Below.refl _ _).alloc (Nat.le_refl _) _).alloc (by simp) _
  have HB := Lib.hid hb
  have hr2 := hr.far hb
  have hs : ((w.alloc (.cells #[.int .i64 19, .int .i64 sort, .string name, .string num, .int .i64 kids] 51)).alloc (.cells #[.slice ao l.length cap] 23)).cell? ⟨w.heap.size + 1, 0, none⟩ = some (.slice ao l.length cap) := by rw [World.cell?_alloc_at _ _ _ _ (by simp)]; rfl
  have hlt : w.heap.size + 1 < ((w.alloc (.cells #[.int .i64 19, .int .i64 sort, .string name, .string num, .int .i64 kids] 51)).alloc (.cells #[.slice ao l.length cap] 23)).heap.size := by simp
  clear hr hb
  have hao := hr2.at0 (by omega)
  subst hao
  have hc0 := hr2.get (t := 0) (by omega)
  have hc1 := hr2.get (t := 1) (by omega)
  have hc2 := hr2.get (t := 2) (by omega)
  have HF := Lib.hid (show rsF 19 sort l = (4, l.getD 0 0 == 4 && (l.getD 1 0 == 2 && l.getD 2 0 == 2)) from rfl)
  clear hr2
  generalize hl0 : l.getD 0 0 = x0 at *
  generalize hl1 : l.getD 1 0 = x1 at *
  generalize hl2 : l.getD 2 0 = x2 at *
  generalize hn : l.length = n at *
  clear hl0
  clear hl1
  clear hl2
  clear hn
  by_cases hx0 : x0 = 4
  · have hx0t : (x0 == 4) = true := by simp [hx0]
    by_cases hx1 : x1 = 2
    · have hx1t : (x1 == 2) = true := by simp [hx1]
      go_enter Tryz.func79, Tryz.ntmps79
      go_wp2
      go_quiet (fail)
      rename_i nq
      go_wp2
      go_ret2
      exact ⟨by rw [HF.out]; simp [hx0, hx1], below_draws HB.out _⟩
    · have hx1t : (x1 == 2) = false := by simp [hx1]
      go_enter Tryz.func79, Tryz.ntmps79
      go_wp2
      go_quiet (fail)
      rename_i nq
      go_wp2
      go_ret2
      exact ⟨by rw [HF.out]; simp [hx0, hx1], below_draws HB.out _⟩
  · have hx0t : (x0 == 4) = false := by simp [hx0]
    go_enter Tryz.func79, Tryz.ntmps79
    go_wp2
    go_quiet (fail)
    rename_i nq
    go_wp2
    go_ret2
    exact ⟨by rw [HF.out]; simp [hx0], below_draws HB.out _⟩
theorem rs_20 (sort kids : Int) (name num : ByteArray) (ao : Option Addr) (g cap : Nat) (l : List Int) (w : World) (hr : RowI w ao g l) (hlen : 1 ≤ l.length) :
    Calls Tryz.prog 79 #[.agg #[.int .i64 20, .int .i64 sort, .string name, .string num, .int .i64 kids], .slice ao l.length cap] w fun e w' => e = .returned (.tuple #[.int .i64 (rsF 20 sort l).1, .bool (rsF 20 sort l).2]) ∧ Below w.heap.size w w' := by
  have hb : Below w.heap.size w ((w.alloc (.cells #[.int .i64 20, .int .i64 sort, .string name, .string num, .int .i64 kids] 51)).alloc (.cells #[.slice ao l.length cap] 23)) := ((Below.refl _ _).alloc (Nat.le_refl _) _).alloc (by simp) _
  have HB := Lib.hid hb
  have hr2 := hr.far hb
  have hs : ((w.alloc (.cells #[.int .i64 20, .int .i64 sort, .string name, .string num, .int .i64 kids] 51)).alloc (.cells #[.slice ao l.length cap] 23)).cell? ⟨w.heap.size + 1, 0, none⟩ = some (.slice ao l.length cap) := by rw [World.cell?_alloc_at _ _ _ _ (by simp)]; rfl
  have hlt : w.heap.size + 1 < ((w.alloc (.cells #[.int .i64 20, .int .i64 sort, .string name, .string num, .int .i64 kids] 51)).alloc (.cells #[.slice ao l.length cap] 23)).heap.size := by simp
  clear hr hb
  have hao := hr2.at0 (by omega)
  subst hao
  have hc0 := hr2.get (t := 0) (by omega)
  have HF := Lib.hid (show rsF 20 sort l = (4, l.getD 0 0 == 2) from rfl)
  clear hr2
  generalize hl0 : l.getD 0 0 = x0 at *
  generalize hn : l.length = n at *
  clear hl0
  clear hn
  go_enter Tryz.func79, Tryz.ntmps79
  go_wp2
  go_quiet (fail)
  rename_i nq
  go_wp2
  go_ret2
  exact ⟨by rw [HF.out]; rfl, below_draws HB.out _⟩
theorem rs_c12 {K : Int} (hK : K = 12 ∨ K = 13) (sort kids : Int) (name num : ByteArray) (ao : Option Addr) (g cap : Nat) (l : List Int) (w : World) (hr : RowI w ao g l) :
    Calls Tryz.prog 79 #[.agg #[.int .i64 K, .int .i64 sort, .string name, .string num, .int .i64 kids], .slice ao l.length cap] w fun e w' => e = .returned (.tuple #[.int .i64 (rsF K sort l).1, .bool (rsF K sort l).2]) ∧ Below w.heap.size w w' := by
  have hb : Below w.heap.size w ((w.alloc (.cells #[.int .i64 K, .int .i64 sort, .string name, .string num, .int .i64 kids] 51)).alloc (.cells #[.slice ao l.length cap] 23)) := ((Below.refl _ _).alloc (Nat.le_refl _) _).alloc (by simp) _
  have HB := Lib.hid hb
  have hr2 := hr.far hb
  have hs : ((w.alloc (.cells #[.int .i64 K, .int .i64 sort, .string name, .string num, .int .i64 kids] 51)).alloc (.cells #[.slice ao l.length cap] 23)).cell? ⟨w.heap.size + 1, 0, none⟩ = some (.slice ao l.length cap) := by rw [World.cell?_alloc_at _ _ _ _ (by simp)]; rfl
  have hlt : w.heap.size + 1 < ((w.alloc (.cells #[.int .i64 K, .int .i64 sort, .string name, .string num, .int .i64 kids] 51)).alloc (.cells #[.slice ao l.length cap] 23)).heap.size := by simp
  clear hr hb
  have HF := Lib.hid (show rsF K sort l = (1, allF l 2 || allF l 3) from by rcases hK with rfl | rfl <;> rfl)
  rcases hK with rfl | rfl
  all_goals
    by_cases h2 : allF l 2 = true
    · have hd := all_any ao g cap l 2 (w.heap.size + 1) _ hr2 hs hlt
      rw [h2] at hd
      go_enter Tryz.func79, Tryz.ntmps79
      go_wp2_with fail
      refine hd.mono ?_
      rintro e w3 ⟨rfl, hb3⟩
      have HB3 := Lib.hid hb3
      clear hb3
      go_wp2
      go_ret2
      exact ⟨by rw [HF.out, h2]; rfl, HB.out.trans (HB3.out.mono HB.out.size)⟩
    · have h2f : allF l 2 = false := by simpa using h2
      clear h2
      have hd := all_any ao g cap l 2 (w.heap.size + 1) _ hr2 hs hlt
      rw [h2f] at hd
      go_enter Tryz.func79, Tryz.ntmps79
      go_wp2_with fail
      generalize (w.alloc (.cells #[.int .i64 _, .int .i64 sort, .string name, .string num, .int .i64 kids] 51)).alloc (.cells #[.slice ao l.length cap] 23) = w2 at *
      refine hd.mono ?_
      rintro e w3 ⟨rfl, hb3⟩
      have hr3 := hr2.far hb3
      have hs3 := (hb3.cell (p := ⟨w.heap.size + 1, 0, none⟩) hlt).trans hs
      have hlt3 := Nat.lt_of_lt_of_le hlt hb3.size
      have HB3 := Lib.hid hb3
      clear hb3
      go_wp2_with fail
      refine (all_any ao g cap l 3 (w.heap.size + 1) w3 hr3 hs3 hlt3).mono ?_
      rintro e w4 ⟨rfl, hb4⟩
      have HB4 := Lib.hid hb4
      clear hb4
      go_wp2
      go_ret2
      exact ⟨by rw [HF.out, h2f]; rfl, (HB.out.trans (HB3.out.mono HB.out.size)).trans (HB4.out.mono (Nat.le_trans HB.out.size HB3.out.size))⟩
end
end Go.Proofs.YthefknoicelhaaaGreatDoor.Se

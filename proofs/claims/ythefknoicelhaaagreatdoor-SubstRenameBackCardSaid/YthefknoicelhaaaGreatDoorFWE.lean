/- The reference's arity and result at any row of sorts. -/
import Derived.Test.YthefknoicelhaaaGreatDoorFWD
namespace Go.Proofs.YthefknoicelhaaaGreatDoor.Se
open Go.RowKit Nmx

section
set_option maxHeartbeats 4000000
set_option maxRecDepth 100000
theorem rArity_any (op n : Int) (w : World) (h0 : 0 ≤ n) : Calls Tryz.prog 74 #[.int .i64 op, .int .i64 n] w fun e w' => e = .returned (.bool (raF op n)) ∧ w' = w := by
  by_cases h5 : op = 5
  · subst h5
    by_cases h1 : 1 ≤ n
    · by_cases h2 : n ≤ 40
      · have HN : Hid (raF 5 n = true) := Lib.hid (by show (decide (1 ≤ n) && decide (n ≤ 40)) = true; simp [h1, h2])
        go_enter Tryz.func74, Tryz.ntmps74
        go_wp2
        go_ret
        exact ⟨by rw [HN.out]; rfl, rfl⟩
      · have HN : Hid (raF 5 n = false) := Lib.hid (by show (decide (1 ≤ n) && decide (n ≤ 40)) = false; simp [h2])
        go_enter Tryz.func74, Tryz.ntmps74
        go_wp2
        go_ret
        exact ⟨by rw [HN.out]; rfl, rfl⟩
    · have HN : Hid (raF 5 n = false) := Lib.hid (by show (decide (1 ≤ n) && decide (n ≤ 40)) = false; simp [h1])
      go_enter Tryz.func74, Tryz.ntmps74
      go_wp2
      go_ret
      exact ⟨by rw [HN.out]; rfl, rfl⟩
  rcases op_cases op with (rfl | rfl | rfl | rfl | rfl | rfl | rfl | rfl | rfl | rfl | rfl | rfl | rfl | rfl | rfl | rfl | rfl | rfl | rfl | rfl) | h
  · go_enter Tryz.func74, Tryz.ntmps74
    go_wp2
    go_ret
    exact ⟨rfl, rfl⟩
  · go_enter Tryz.func74, Tryz.ntmps74
    go_wp2
    go_ret
    exact ⟨rfl, rfl⟩
  · go_enter Tryz.func74, Tryz.ntmps74
    go_wp2
    go_ret
    exact ⟨rfl, rfl⟩
  · go_enter Tryz.func74, Tryz.ntmps74
    go_wp2
    go_ret
    exact ⟨rfl, rfl⟩
  · exact absurd rfl h5
  · go_enter Tryz.func74, Tryz.ntmps74
    go_wp2
    go_ret
    exact ⟨rfl, rfl⟩
  · have HN : Hid (raF 7 n = true) := Lib.hid (by show decide (0 ≤ n) = true; simp [h0])
    go_enter Tryz.func74, Tryz.ntmps74
    go_wp2
    go_ret
    exact ⟨by rw [HN.out]; rfl, rfl⟩
  · have HN : Hid (raF 8 n = true) := Lib.hid (by show decide (0 ≤ n) = true; simp [h0])
    go_enter Tryz.func74, Tryz.ntmps74
    go_wp2
    go_ret
    exact ⟨by rw [HN.out]; rfl, rfl⟩
  · go_enter Tryz.func74, Tryz.ntmps74
    go_wp2
    go_ret
    exact ⟨rfl, rfl⟩
  · go_enter Tryz.func74, Tryz.ntmps74
    go_wp2
    go_ret
    exact ⟨rfl, rfl⟩
  · go_enter Tryz.func74, Tryz.ntmps74
    go_wp2
    go_ret
    exact ⟨rfl, rfl⟩
  · go_enter Tryz.func74, Tryz.ntmps74
    go_wp2
    go_ret
    exact ⟨rfl, rfl⟩
  · go_enter Tryz.func74, Tryz.ntmps74
    go_wp2
    go_ret
    exact ⟨rfl, rfl⟩
  · go_enter Tryz.func74, Tryz.ntmps74
    go_wp2
    go_ret
    exact ⟨rfl, rfl⟩
  · go_enter Tryz.func74, Tryz.ntmps74
    go_wp2
    go_ret
    exact ⟨rfl, rfl⟩
  · go_enter Tryz.func74, Tryz.ntmps74
    go_wp2
    go_ret
    exact ⟨rfl, rfl⟩
  · go_enter Tryz.func74, Tryz.ntmps74
    go_wp2
    go_ret
    exact ⟨rfl, rfl⟩
  · go_enter Tryz.func74, Tryz.ntmps74
    go_wp2
    go_ret
    exact ⟨rfl, rfl⟩
  · go_enter Tryz.func74, Tryz.ntmps74
    go_wp2
    go_ret
    exact ⟨rfl, rfl⟩
  · go_enter Tryz.func74, Tryz.ntmps74
    go_wp2
    go_ret
    exact ⟨rfl, rfl⟩
  · have HN : Hid (raF op n = (n == 2)) := Lib.hid (by
      unfold raF
      rw [if_neg (by omega), if_neg (by omega), if_neg (by omega), if_neg (by omega), if_neg (by omega), if_neg (by omega)])
    clear h5
    go_enter Tryz.func74, Tryz.ntmps74
    go_wp2
    go_ret
    exact ⟨by rw [HN.out]; rfl, rfl⟩
theorem rArity_b (op n : Int) (w : World) (h0 : 0 ≤ n) {b : Bool} (h : raF op n = b) : Calls Tryz.prog 74 #[.int .i64 op, .int .i64 n] w fun e w' => e = .returned (.bool b) ∧ w' = w := by
  rw [← h]; exact rArity_any op n w h0
theorem same_any (ao : Option Addr) (g cap : Nat) (l : List Int) (s o : Int) (w : World) (hr : RowI w ao g l) :
    Calls Tryz.prog 96 #[.slice ao l.length cap, .int .i64 s, .int .i64 o] w fun e w' => e = .returned (.int .i64 (sameF l s o)) ∧ w' = w := by
  have HR := Lib.hid hr
  clear hr
  go_enter Tryz.func96, Tryz.ntmps96
  go_wp2
  go_loop [7] (fun i => ∃ k : Nat, k ≤ l.length ∧ i = .int .i64 k ∧ allF (l.take k) s = true) (fun i => l.length - (intOf i).toNat)
  case atStart => exact ⟨0, Nat.zero_le _, rfl, rfl⟩
  case round =>
    obtain ⟨k, hk, rfl, ha⟩ := hrel
    have HA := Lib.hid ha
    have hf := HR.out.few
    clear ha
    by_cases hlt : k < l.length
    · have hao := HR.out.at0 (by omega)
      subst hao
      have hc := HR.out.cell k hlt
      by_cases hx : l[k] = s
      · have hxe : (l[k] == s) = true := by simp [hx]
        have HN : Hid (allF (l.take (k + 1)) s = true) := Lib.hid (by unfold allF; rw [List.take_succ_eq_append_getElem hlt, List.all_append]; have := HA.out; unfold allF at this; rw [this]; simp [hx])
        clear hx
        generalize l[k] = y at *
        go_wp2
        go_round
        case rel => exact ⟨k + 1, by omega, by go_num, HN.out⟩
        case measure => simp [intOf]; omega
      · have hxe : (l[k] == s) = false := by simp [hx]
        have HN : Hid (sameF l s o = 0) := Lib.hid (by
          unfold sameF; rw [if_neg]
          rw [List.all_eq_true]; intro h; exact hx (by simpa using h l[k] (List.getElem_mem hlt)))
        clear hx
        generalize l[k] = y at *
        go_wp2
        go_ret
        exact ⟨by rw [HN.out]; rfl, rfl⟩
    · have HN : Hid (sameF l s o = o) := Lib.hid (same_all (by have := HA.out; rwa [List.take_of_length_le (by omega)] at this))
      go_wp2
      go_ret
      exact ⟨by rw [HN.out]; rfl, rfl⟩
theorem numeric_b (s : Int) (w : World) {b : Bool} (h : nuF s = b) : Calls Tryz.prog 97 #[.int .i64 s] w fun e w' => e = .returned (.bool b) ∧ w' = w := by
  rw [← h]; exact numeric_any s w
theorem rr_c1 {K : Int} (hK : K = 1 ∨ K = 2) (sort kids first : Int) (name num : ByteArray) (ao : Option Addr) (g cap : Nat) (l : List Int) (w : World) (hr : RowI w ao g l) :
    Calls Tryz.prog 75 #[.agg #[.int .i64 K, .int .i64 sort, .string name, .string num, .int .i64 kids], .int .i64 first, .slice ao l.length cap] w fun e w' => e = .returned (.int .i64 (rrF K sort first l)) ∧ Below w.heap.size w w' := by
  have hb : Below w.heap.size w (w.alloc (.cells #[.int .i64 K, .int .i64 sort, .string name, .string num, .int .i64 kids] 51)) := (Below.refl _ _).alloc (Nat.le_refl _) _
  have HB := Lib.hid hb
  have hr2 := hr.far hb
  clear hr hb
  have HN : Hid (rrF K sort first l = 1) := Lib.hid (by rcases hK with rfl | rfl <;> rfl)
  clear hr2
  rcases hK with rfl | rfl
  all_goals
    go_enter Tryz.func75, Tryz.ntmps75
    go_wp2
    go_ret
    exact ⟨by rw [HN.out]; rfl, HB.out⟩
theorem rr_c3 {K : Int} (hK : K = 3 ∨ K = 4 ∨ K = 5) (sort kids first : Int) (name num : ByteArray) (ao : Option Addr) (g cap : Nat) (l : List Int) (w : World) (hr : RowI w ao g l) :
    Calls Tryz.prog 75 #[.agg #[.int .i64 K, .int .i64 sort, .string name, .string num, .int .i64 kids], .int .i64 first, .slice ao l.length cap] w fun e w' => e = .returned (.int .i64 (rrF K sort first l)) ∧ Below w.heap.size w w' := by
  have hb : Below w.heap.size w (w.alloc (.cells #[.int .i64 K, .int .i64 sort, .string name, .string num, .int .i64 kids] 51)) := (Below.refl _ _).alloc (Nat.le_refl _) _
  have HB := Lib.hid hb
  have hr2 := hr.far hb
  clear hr hb
  have HN : Hid (rrF K sort first l = sort) := Lib.hid (by rcases hK with rfl | rfl | rfl <;> rfl)
  clear hr2
  rcases hK with rfl | rfl | rfl
  all_goals
    go_enter Tryz.func75, Tryz.ntmps75
    go_wp2
    go_ret
    exact ⟨by rw [HN.out]; rfl, HB.out⟩
theorem rr_c6 {K : Int} (hK : K = 6 ∨ K = 7 ∨ K = 8 ∨ K = 9) (sort kids first : Int) (name num : ByteArray) (ao : Option Addr) (g cap : Nat) (l : List Int) (w : World) (hr : RowI w ao g l) :
    Calls Tryz.prog 75 #[.agg #[.int .i64 K, .int .i64 sort, .string name, .string num, .int .i64 kids], .int .i64 first, .slice ao l.length cap] w fun e w' => e = .returned (.int .i64 (rrF K sort first l)) ∧ Below w.heap.size w w' := by
  have hb : Below w.heap.size w (w.alloc (.cells #[.int .i64 K, .int .i64 sort, .string name, .string num, .int .i64 kids] 51)) := (Below.refl _ _).alloc (Nat.le_refl _) _
  have HB := Lib.hid hb
  have hr2 := hr.far hb
  clear hr hb
  have HN : Hid (rrF K sort first l = sameF l 1 1) := Lib.hid (by rcases hK with rfl | rfl | rfl | rfl <;> rfl)
  rcases hK with rfl | rfl | rfl | rfl
  all_goals
    go_enter Tryz.func75, Tryz.ntmps75
    go_wp2_with fail
    refine (same_any _ g _ l _ _ _ hr2).mono ?_
    rintro e w1 ⟨rfl, rfl⟩
    clear hr2
    go_wp2
    go_ret
    exact ⟨by rw [HN.out]; rfl, HB.out⟩
theorem rr_10 (sort kids first : Int) (name num : ByteArray) (ao : Option Addr) (g cap : Nat) (l : List Int) (w : World) (hr : RowI w ao g l) (hlen : 3 ≤ l.length) :
    Calls Tryz.prog 75 #[.agg #[.int .i64 10, .int .i64 sort, .string name, .string num, .int .i64 kids], .int .i64 first, .slice ao l.length cap] w fun e w' => e = .returned (.int .i64 (rrF 10 sort first l)) ∧ Below w.heap.size w w' := by
  have hb : Below w.heap.size w (w.alloc (.cells #[.int .i64 10, .int .i64 sort, .string name, .string num, .int .i64 kids] 51)) := (Below.refl _ _).alloc (Nat.le_refl _) _
  have HB := Lib.hid hb
  have hr2 := hr.far hb
  clear hr hb
  have hao := hr2.at0 (by omega)
  subst hao
  have hc0 := hr2.get (t := 0) (by omega)
  have hc1 := hr2.get (t := 1) (by omega)
  have hc2 := hr2.get (t := 2) (by omega)
  have HF := Lib.hid (show rrF 10 sort first l = (if l.getD 0 0 == 1 && l.getD 1 0 == l.getD 2 0 then l.getD 1 0 else 0) from rfl)
  have hlp : 0 < l.length := by omega
  have hlp1 : 1 < l.length := by omega
  have hlp2 : 2 < l.length := by omega
  clear hlen
  generalize hl0 : l.getD 0 0 = x0 at *
  clear hl0
  generalize hl1 : l.getD 1 0 = x1 at *
  clear hl1
  generalize hl2 : l.getD 2 0 = x2 at *
  clear hl2
  by_cases h0 : x0 = 1
  · subst h0
    by_cases h1 : x1 = x2
    · have HN := Lib.hid (HF.out.trans (show _ = x1 by simp [h1]))
      have h1e : (x1 == x2) = true := by simp [h1]
      clear h1
      go_enter Tryz.func75, Tryz.ntmps75
      go_wp2
      go_quiet (fail)
      rename_i nq
      go_wp2
      go_ret
      exact ⟨by rw [HN.out]; rfl, below_draws HB.out _⟩
    · have HN := Lib.hid (HF.out.trans (show _ = (0 : Int) by simp [h1]))
      have h1e : (x1 == x2) = false := by simp [h1]
      go_enter Tryz.func75, Tryz.ntmps75
      go_wp2
      go_quiet (fail)
      rename_i nq
      go_wp2
      go_ret
      exact ⟨by rw [HN.out]; rfl, below_draws HB.out _⟩
  · have HN := Lib.hid (HF.out.trans (show _ = (0 : Int) by simp [h0]))
    have h0e : (x0 == 1) = false := by simp [h0]
    go_enter Tryz.func75, Tryz.ntmps75
    go_wp2
    go_quiet (fail)
    rename_i nq
    go_wp2
    go_ret
    exact ⟨by rw [HN.out]; rfl, below_draws HB.out _⟩
theorem rr_11 (sort kids first : Int) (name num : ByteArray) (ao : Option Addr) (g cap : Nat) (l : List Int) (w : World) (hr : RowI w ao g l) (hlen : 2 ≤ l.length) :
    Calls Tryz.prog 75 #[.agg #[.int .i64 11, .int .i64 sort, .string name, .string num, .int .i64 kids], .int .i64 first, .slice ao l.length cap] w fun e w' => e = .returned (.int .i64 (rrF 11 sort first l)) ∧ Below w.heap.size w w' := by
  have hb : Below w.heap.size w (w.alloc (.cells #[.int .i64 11, .int .i64 sort, .string name, .string num, .int .i64 kids] 51)) := (Below.refl _ _).alloc (Nat.le_refl _) _
  have HB := Lib.hid hb
  have hr2 := hr.far hb
  clear hr hb
  have hao := hr2.at0 (by omega)
  subst hao
  have hc0 := hr2.get (t := 0) (by omega)
  have HF := Lib.hid (show rrF 11 sort first l = sameF l (l.getD 0 0) 1 from rfl)
  have hlp : 0 < l.length := by omega
  clear hlen
  generalize hl0 : l.getD 0 0 = x0 at *
  clear hl0
  have HN := HF
  go_enter Tryz.func75, Tryz.ntmps75
  go_wp2_with fail
  refine (same_any _ g _ l _ _ _ hr2).mono ?_
  rintro e w1 ⟨rfl, rfl⟩
  clear hr2
  go_wp2
  go_ret
  exact ⟨by rw [HN.out]; rfl, HB.out⟩
theorem rr_c12 {K : Int} (hK : K = 12 ∨ K = 13) (sort kids first : Int) (name num : ByteArray) (ao : Option Addr) (g cap : Nat) (l : List Int) (w : World) (hr : RowI w ao g l) (hlen : 2 ≤ l.length) :
    Calls Tryz.prog 75 #[.agg #[.int .i64 K, .int .i64 sort, .string name, .string num, .int .i64 kids], .int .i64 first, .slice ao l.length cap] w fun e w' => e = .returned (.int .i64 (rrF K sort first l)) ∧ Below w.heap.size w w' := by
  have hb : Below w.heap.size w (w.alloc (.cells #[.int .i64 K, .int .i64 sort, .string name, .string num, .int .i64 kids] 51)) := (Below.refl _ _).alloc (Nat.le_refl _) _
  have HB := Lib.hid hb
  have hr2 := hr.far hb
  clear hr hb
  have hao := hr2.at0 (by omega)
  subst hao
  have hc0 := hr2.get (t := 0) (by omega)
  have HF := Lib.hid (show rrF K sort first l = (if nuF (l.getD 0 0) then sameF l (l.getD 0 0) 1 else 0) from by rcases hK with rfl | rfl <;> rfl)
  have hlp : 0 < l.length := by omega
  clear hlen
  generalize hl0 : l.getD 0 0 = x0 at *
  clear hl0
  rcases hK with rfl | rfl
  all_goals
    cases hu : nuF x0
    · have HN := Lib.hid (HF.out.trans (show _ = (0 : Int) by rw [hu]; rfl))
      go_enter Tryz.func75, Tryz.ntmps75
      go_wp2_with fail
      refine (numeric_b _ _ hu).mono ?_
      rintro e w1 ⟨rfl, rfl⟩
      go_wp2
      go_ret
      exact ⟨by rw [HN.out]; rfl, HB.out⟩
    · have HN := Lib.hid (HF.out.trans (show _ = sameF l x0 1 by rw [hu]; rfl))
      go_enter Tryz.func75, Tryz.ntmps75
      go_wp2_with fail
      refine (numeric_b _ _ hu).mono ?_
      rintro e w1 ⟨rfl, rfl⟩
      go_wp2_with fail
      refine (same_any _ g _ l _ _ _ hr2).mono ?_
      rintro e w1 ⟨rfl, rfl⟩
      clear hr2
      go_wp2
      go_ret
      exact ⟨by rw [HN.out]; rfl, HB.out⟩
theorem rr_14 (sort kids first : Int) (name num : ByteArray) (ao : Option Addr) (g cap : Nat) (l : List Int) (w : World) (hr : RowI w ao g l) (hlen : 1 ≤ l.length) :
    Calls Tryz.prog 75 #[.agg #[.int .i64 14, .int .i64 sort, .string name, .string num, .int .i64 kids], .int .i64 first, .slice ao l.length cap] w fun e w' => e = .returned (.int .i64 (rrF 14 sort first l)) ∧ Below w.heap.size w w' := by
  have hb : Below w.heap.size w (w.alloc (.cells #[.int .i64 14, .int .i64 sort, .string name, .string num, .int .i64 kids] 51)) := (Below.refl _ _).alloc (Nat.le_refl _) _
  have HB := Lib.hid hb
  have hr2 := hr.far hb
  clear hr hb
  have hao := hr2.at0 (by omega)
  subst hao
  have hc0 := hr2.get (t := 0) (by omega)
  have HF := Lib.hid (show rrF 14 sort first l = (if nuF (l.getD 0 0) then sameF l (l.getD 0 0) (l.getD 0 0) else 0) from rfl)
  have hlp : 0 < l.length := by omega
  clear hlen
  generalize hl0 : l.getD 0 0 = x0 at *
  clear hl0
  cases hu : nuF x0
  · have HN := Lib.hid (HF.out.trans (show _ = (0 : Int) by rw [hu]; rfl))
    go_enter Tryz.func75, Tryz.ntmps75
    go_wp2_with fail
    refine (numeric_b _ _ hu).mono ?_
    rintro e w1 ⟨rfl, rfl⟩
    go_wp2
    go_ret
    exact ⟨by rw [HN.out]; rfl, HB.out⟩
  · have HN := Lib.hid (HF.out.trans (show _ = sameF l x0 x0 by rw [hu]; rfl))
    go_enter Tryz.func75, Tryz.ntmps75
    go_wp2_with fail
    refine (numeric_b _ _ hu).mono ?_
    rintro e w1 ⟨rfl, rfl⟩
    go_wp2
    go_quiet ((go_at_call 96; exact Calls.quiet_of_same (same_any _ g _ l _ _ _ (hr2.drewN _))))
    rename_i nq
    go_wp2
    go_ret
    exact ⟨by rw [HN.out]; rfl, below_draws HB.out _⟩
theorem rr_15 (sort kids first : Int) (name num : ByteArray) (ao : Option Addr) (g cap : Nat) (l : List Int) (w : World) (hr : RowI w ao g l) (hlen : 2 ≤ l.length) :
    Calls Tryz.prog 75 #[.agg #[.int .i64 15, .int .i64 sort, .string name, .string num, .int .i64 kids], .int .i64 first, .slice ao l.length cap] w fun e w' => e = .returned (.int .i64 (rrF 15 sort first l)) ∧ Below w.heap.size w w' := by
  have hb : Below w.heap.size w (w.alloc (.cells #[.int .i64 15, .int .i64 sort, .string name, .string num, .int .i64 kids] 51)) := (Below.refl _ _).alloc (Nat.le_refl _) _
  have HB := Lib.hid hb
  have hr2 := hr.far hb
  clear hr hb
  have hao := hr2.at0 (by omega)
  subst hao
  have hc0 := hr2.get (t := 0) (by omega)
  have HF := Lib.hid (show rrF 15 sort first l = (if first = 3 then sameF l (l.getD 0 0) (l.getD 0 0) else 0) from rfl)
  have hlp : 0 < l.length := by omega
  clear hlen
  generalize hl0 : l.getD 0 0 = x0 at *
  clear hl0
  by_cases hf : first = 3
  · subst hf
    have HN := Lib.hid (HF.out.trans (show _ = sameF l x0 x0 from rfl))
    go_enter Tryz.func75, Tryz.ntmps75
    go_wp2
    go_quiet ((go_at_call 96; exact Calls.quiet_of_same (same_any _ g _ l _ _ _ (hr2.drewN _))))
    rename_i nq
    go_wp2
    go_ret
    exact ⟨by rw [HN.out]; rfl, below_draws HB.out _⟩
  · have HN := Lib.hid (HF.out.trans (show _ = (0 : Int) by rw [if_neg hf]))
    have hfe : (first == 3) = false := by simp [hf]
    go_enter Tryz.func75, Tryz.ntmps75
    go_wp2
    go_ret
    exact ⟨by rw [HN.out]; rfl, HB.out⟩
theorem rr_c16 {K : Int} (hK : K = 16 ∨ K = 17) (sort kids first : Int) (name num : ByteArray) (ao : Option Addr) (g cap : Nat) (l : List Int) (w : World) (hr : RowI w ao g l) :
    Calls Tryz.prog 75 #[.agg #[.int .i64 K, .int .i64 sort, .string name, .string num, .int .i64 kids], .int .i64 first, .slice ao l.length cap] w fun e w' => e = .returned (.int .i64 (rrF K sort first l)) ∧ Below w.heap.size w w' := by
  have hb : Below w.heap.size w (w.alloc (.cells #[.int .i64 K, .int .i64 sort, .string name, .string num, .int .i64 kids] 51)) := (Below.refl _ _).alloc (Nat.le_refl _) _
  have HB := Lib.hid hb
  have hr2 := hr.far hb
  clear hr hb
  have HN : Hid (rrF K sort first l = sameF l 2 2) := Lib.hid (by rcases hK with rfl | rfl <;> rfl)
  rcases hK with rfl | rfl
  all_goals
    go_enter Tryz.func75, Tryz.ntmps75
    go_wp2_with fail
    refine (same_any _ g _ l _ _ _ hr2).mono ?_
    rintro e w1 ⟨rfl, rfl⟩
    clear hr2
    go_wp2
    go_ret
    exact ⟨by rw [HN.out]; rfl, HB.out⟩
theorem rr_18 (sort kids first : Int) (name num : ByteArray) (ao : Option Addr) (g cap : Nat) (l : List Int) (w : World) (hr : RowI w ao g l) (hlen : 2 ≤ l.length) :
    Calls Tryz.prog 75 #[.agg #[.int .i64 18, .int .i64 sort, .string name, .string num, .int .i64 kids], .int .i64 first, .slice ao l.length cap] w fun e w' => e = .returned (.int .i64 (rrF 18 sort first l)) ∧ Below w.heap.size w w' := by
  have hb : Below w.heap.size w (w.alloc (.cells #[.int .i64 18, .int .i64 sort, .string name, .string num, .int .i64 kids] 51)) := (Below.refl _ _).alloc (Nat.le_refl _) _
  have HB := Lib.hid hb
  have hr2 := hr.far hb
  clear hr hb
  have hao := hr2.at0 (by omega)
  subst hao
  have hc0 := hr2.get (t := 0) (by omega)
  have hc1 := hr2.get (t := 1) (by omega)
  have HF := Lib.hid (show rrF 18 sort first l = (if l.getD 0 0 == 4 && l.getD 1 0 == 2 then 2 else 0) from rfl)
  have hlp : 0 < l.length := by omega
  have hlp1 : 1 < l.length := by omega
  clear hlen
  generalize hl0 : l.getD 0 0 = x0 at *
  clear hl0
  generalize hl1 : l.getD 1 0 = x1 at *
  clear hl1
  by_cases h0 : x0 = 4
  · subst h0
    by_cases h1 : x1 = 2
    · subst h1
      have HN := Lib.hid (HF.out.trans (show _ = (2 : Int) from rfl))
      go_enter Tryz.func75, Tryz.ntmps75
      go_wp2
      go_ret
      exact ⟨by rw [HN.out]; rfl, HB.out⟩
    · have HN := Lib.hid (HF.out.trans (show _ = (0 : Int) by simp [h1]))
      have h1e : (x1 == 2) = false := by simp [h1]
      go_enter Tryz.func75, Tryz.ntmps75
      go_wp2
      go_ret
      exact ⟨by rw [HN.out]; rfl, HB.out⟩
  · have HN := Lib.hid (HF.out.trans (show _ = (0 : Int) by simp [h0]))
    have h0e : (x0 == 4) = false := by simp [h0]
    go_enter Tryz.func75, Tryz.ntmps75
    go_wp2
    go_ret
    exact ⟨by rw [HN.out]; rfl, HB.out⟩
theorem rr_19 (sort kids first : Int) (name num : ByteArray) (ao : Option Addr) (g cap : Nat) (l : List Int) (w : World) (hr : RowI w ao g l) (hlen : 3 ≤ l.length) :
    Calls Tryz.prog 75 #[.agg #[.int .i64 19, .int .i64 sort, .string name, .string num, .int .i64 kids], .int .i64 first, .slice ao l.length cap] w fun e w' => e = .returned (.int .i64 (rrF 19 sort first l)) ∧ Below w.heap.size w w' := by
  have hb : Below w.heap.size w (w.alloc (.cells #[.int .i64 19, .int .i64 sort, .string name, .string num, .int .i64 kids] 51)) := (Below.refl _ _).alloc (Nat.le_refl _) _
  have HB := Lib.hid hb
  have hr2 := hr.far hb
  clear hr hb
  have hao := hr2.at0 (by omega)
  subst hao
  have hc0 := hr2.get (t := 0) (by omega)
  have hc1 := hr2.get (t := 1) (by omega)
  have hc2 := hr2.get (t := 2) (by omega)
  have HF := Lib.hid (show rrF 19 sort first l = (if l.getD 0 0 == 4 && (l.getD 1 0 == 2 && l.getD 2 0 == 2) then 4 else 0) from rfl)
  have hlp : 0 < l.length := by omega
  have hlp1 : 1 < l.length := by omega
  have hlp2 : 2 < l.length := by omega
  clear hlen
  generalize hl0 : l.getD 0 0 = x0 at *
  clear hl0
  generalize hl1 : l.getD 1 0 = x1 at *
  clear hl1
  generalize hl2 : l.getD 2 0 = x2 at *
  clear hl2
  by_cases h0 : x0 = 4
  · subst h0
    by_cases h1 : x1 = 2
    · subst h1
      by_cases h2 : x2 = 2
      · subst h2
        have HN := Lib.hid (HF.out.trans (show _ = (4 : Int) from rfl))
        go_enter Tryz.func75, Tryz.ntmps75
        go_wp2
        go_ret
        exact ⟨by rw [HN.out]; rfl, HB.out⟩
      · have HN := Lib.hid (HF.out.trans (show _ = (0 : Int) by simp [h2]))
        have h2e : (x2 == 2) = false := by simp [h2]
        go_enter Tryz.func75, Tryz.ntmps75
        go_wp2
        go_ret
        exact ⟨by rw [HN.out]; rfl, HB.out⟩
    · have HN := Lib.hid (HF.out.trans (show _ = (0 : Int) by simp [h1]))
      have h1e : (x1 == 2) = false := by simp [h1]
      go_enter Tryz.func75, Tryz.ntmps75
      go_wp2
      go_ret
      exact ⟨by rw [HN.out]; rfl, HB.out⟩
  · have HN := Lib.hid (HF.out.trans (show _ = (0 : Int) by simp [h0]))
    have h0e : (x0 == 4) = false := by simp [h0]
    go_enter Tryz.func75, Tryz.ntmps75
    go_wp2
    go_ret
    exact ⟨by rw [HN.out]; rfl, HB.out⟩
theorem rr_20 (sort kids first : Int) (name num : ByteArray) (ao : Option Addr) (g cap : Nat) (l : List Int) (w : World) (hr : RowI w ao g l) :
    Calls Tryz.prog 75 #[.agg #[.int .i64 20, .int .i64 sort, .string name, .string num, .int .i64 kids], .int .i64 first, .slice ao l.length cap] w fun e w' => e = .returned (.int .i64 (rrF 20 sort first l)) ∧ Below w.heap.size w w' := by
  have hb : Below w.heap.size w (w.alloc (.cells #[.int .i64 20, .int .i64 sort, .string name, .string num, .int .i64 kids] 51)) := (Below.refl _ _).alloc (Nat.le_refl _) _
  have HB := Lib.hid hb
  have hr2 := hr.far hb
  clear hr hb
  have HN : Hid (rrF 20 sort first l = sameF l 2 4) := Lib.hid rfl
  go_enter Tryz.func75, Tryz.ntmps75
  go_wp2_with fail
  refine (same_any _ g _ l _ _ _ hr2).mono ?_
  rintro e w1 ⟨rfl, rfl⟩
  clear hr2
  go_wp2
  go_ret
  exact ⟨by rw [HN.out]; rfl, HB.out⟩
theorem result_any (x : Nd) (first : Int) (ao : Option Addr) (g cap : Nat) (l : List Int) (w : World) (hr : RowI w ao g l) (hop : 1 ≤ x.op ∧ x.op ≤ 20) (hlen : raF x.op l.length = true) :
    Calls Tryz.prog 75 #[x.val, .int .i64 first, .slice ao l.length cap] w fun e w' => e = .returned (.int .i64 (rrF x.op x.sort first l)) ∧ Below w.heap.size w w' := by
  obtain ⟨op, sort, name, num, kids⟩ := x
  unfold Nd.val
  simp only at hop hlen ⊢
  rcases op_cases op with (rfl | rfl | rfl | rfl | rfl | rfl | rfl | rfl | rfl | rfl | rfl | rfl | rfl | rfl | rfl | rfl | rfl | rfl | rfl | rfl) | h
  · exact rr_c1 (.inl rfl) sort kids first name num ao g cap l w hr
  · exact rr_c1 (.inr rfl) sort kids first name num ao g cap l w hr
  · exact rr_c3 (.inl rfl) sort kids first name num ao g cap l w hr
  · exact rr_c3 (.inr (.inl rfl)) sort kids first name num ao g cap l w hr
  · exact rr_c3 (.inr (.inr rfl)) sort kids first name num ao g cap l w hr
  · exact rr_c6 (.inl rfl) sort kids first name num ao g cap l w hr
  · exact rr_c6 (.inr (.inl rfl)) sort kids first name num ao g cap l w hr
  · exact rr_c6 (.inr (.inr (.inl rfl))) sort kids first name num ao g cap l w hr
  · exact rr_c6 (.inr (.inr (.inr rfl))) sort kids first name num ao g cap l w hr
  · exact rr_10 sort kids first name num ao g cap l w hr (by have h : (l.length : Int) = 3 := (by simpa [raF] using hlen); omega)
  · exact rr_11 sort kids first name num ao g cap l w hr (by have h : (l.length : Int) = 2 := (by simpa [raF] using hlen); omega)
  · exact rr_c12 (.inl rfl) sort kids first name num ao g cap l w hr (by have h : (l.length : Int) = 2 := (by simpa [raF] using hlen); omega)
  · exact rr_c12 (.inr rfl) sort kids first name num ao g cap l w hr (by have h : (l.length : Int) = 2 := (by simpa [raF] using hlen); omega)
  · exact rr_14 sort kids first name num ao g cap l w hr (by have h := of_decide_eq_true (show decide (1 ≤ (l.length : Int)) = true from hlen); omega)
  · exact rr_15 sort kids first name num ao g cap l w hr (by have h : (l.length : Int) = 2 := (by simpa [raF] using hlen); omega)
  · exact rr_c16 (.inl rfl) sort kids first name num ao g cap l w hr
  · exact rr_c16 (.inr rfl) sort kids first name num ao g cap l w hr
  · exact rr_18 sort kids first name num ao g cap l w hr (by have h : (l.length : Int) = 2 := (by simpa [raF] using hlen); omega)
  · exact rr_19 sort kids first name num ao g cap l w hr (by have h : (l.length : Int) = 3 := (by simpa [raF] using hlen); omega)
  · exact rr_20 sort kids first name num ao g cap l w hr
  · omega
end
end Go.Proofs.YthefknoicelhaaaGreatDoor.Se

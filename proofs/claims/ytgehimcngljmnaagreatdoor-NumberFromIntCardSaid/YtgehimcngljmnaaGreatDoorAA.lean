/- Rat.IsInt, Num, Den, Sign of package exact; IsInt, Sign, Valid of package number. -/
import Derived.Test.YtgehimcngljmnaaGreatDoorY
import Derived.Lib.SmallJoins
namespace Go.Proofs.YtgehimcngljmnaaGreatDoor
open Go.RowKit Nmx

theorem denI_zero (q : Rat) : decide (denI q = 0) = decide (q.den = 1) := by
  have := q.den_nz
  unfold denI
  by_cases h : q.den = 1
  · rw [if_pos h]; simp [h]
  · rw [if_neg h]; simp [h]; exact this
theorem rv_form {w : World} {v : Value} {q : Rat} (h : RV w v q) : ∃ s1 b1 a1 n1 c1 s2 b2 a2 n2 c2, v = .agg #[.int .i64 s1, .bool b1, .slice a1 n1 c1, .int .i64 s2, .bool b2, .slice a2 n2 c2] ∧ IV w (.agg #[.int .i64 s1, .bool b1, .slice a1 n1 c1]) q.num ∧ IV w (.agg #[.int .i64 s2, .bool b2, .slice a2 n2 c2]) (denI q) := h
section
set_option maxRecDepth 100000
set_option maxHeartbeats 4000000
theorem ratIsInt_any (v : Value) (q : Rat) (w : World) (h : RV w v q) : Calls Tryz.prog 75 #[v] w fun e w' => e = .returned (.bool (decide (q.den = 1))) ∧ Below w.heap.size w w' := by
  obtain ⟨s1, b1, a1, n1, c1, s2, b2, a2, n2, c2, rfl, h1, h2⟩ := rv_form h
  have hz := fun o => isZero_any _ _ _ (h2.alloc_of o)
  rw [denI_zero] at hz
  clear h h1 h2
  go_enter Tryz.func75, Tryz.ntmps75
  go_wp2_with fail
  refine (hz _).mono ?_
  rintro e w1 ⟨rfl, hb1⟩
  go_wp2
  go_ret
  exact ⟨rfl, ((Below.refl _ _).alloc (Nat.le_refl _) _).trans (hb1.mono (by simp))⟩
theorem ratSign_any (v : Value) (q : Rat) (w : World) (h : RV w v q) : Calls Tryz.prog 80 #[v] w fun e w' => e = .returned (.int .i64 (sgnI q.num)) ∧ Below w.heap.size w w' := by
  obtain ⟨s1, b1, a1, n1, c1, s2, b2, a2, n2, c2, rfl, h1, h2⟩ := rv_form h
  have hz := fun o => sign_any _ _ _ (h1.alloc_of o)
  clear h h1 h2
  go_enter Tryz.func80, Tryz.ntmps80
  go_wp2_with fail
  refine (hz _).mono ?_
  rintro e w1 ⟨rfl, hb1⟩
  go_wp2
  go_ret
  exact ⟨rfl, ((Below.refl _ _).alloc (Nat.le_refl _) _).trans (hb1.mono (by simp))⟩
theorem ratNum_any (v : Value) (q : Rat) (w : World) (h : RV w v q) : Calls Tryz.prog 76 #[v] w (GetsI q.num w) := by
  obtain ⟨s1, b1, a1, n1, c1, s2, b2, a2, n2, c2, rfl, h1, h2⟩ := rv_form h
  have H1 := Lib.hid h1
  clear h h1 h2
  go_enter Tryz.func76, Tryz.ntmps76
  go_wp2
  have hbl := below2 w (.cells #[.int .i64 s1, .bool b1, .slice a1 n1 c1, .int .i64 s2, .bool b2, .slice a2 n2 c2] 63) (.cells #[.int .i64 s1, .bool b1, .slice a1 n1 c1] 58)
  exact bodyPost_ret (v := .agg #[.int .i64 s1, .bool b1, .slice a1 n1 c1]) (by simp [results, Tryz.results76, go_sem]) rfl ⟨_, rfl, H1.out.far hbl, hbl⟩

theorem drop_no : ∀ l : List UInt8, l.contains 47 = false → l.dropWhile (· != 47) = []
  | [], _ => rfl
  | c :: r, h => by
    rw [List.contains_cons, Bool.or_eq_false_iff] at h
    have hc : (c != 47) = true := by
      rw [bne_iff_ne]; intro e; subst e; exact absurd h.1 (by decide)
    rw [List.dropWhile_cons, if_pos hc]
    exact drop_no r h.2
/-- whatever Gcd is asked at the text's two integers, it does what it should -/
def GcdAt (l : List UInt8) : Prop := ∀ n d, canonF (upto l) = some n → canonF (behind l) = some d → 1 < d → GcdOk n d
theorem gcdAt_int {l : List UInt8} (h : l.contains 47 = false) : GcdAt l := fun n d _ hd h1 => by
  exfalso
  have hb : behind l = [] := by
    unfold behind
    have this := drop_no l h
    rw [this]; rfl
  rw [hb] at hd
  have := canonF_some hd
  unfold decI at this
  have h2 := decN_ne d.natAbs
  split at this
  · cases this
  · exact h2 this
/-- what the library's and the project's variables hold, as far as texts want it -/
structure Env (w : World) : Prop where
  big : 0 < w.heap.size
  len : ∃ m : Int, w.cell? ⟨0, 0, none⟩ = some (.int .i64 m)
  tab : Lib.TabIs Tryz.prog w "internal/strconv.uint64pow10" .u64 Lib.pow10Tab
theorem Env.far {w w1 : World} (h : Env w) (hb : Below w.heap.size w w1) : Env w1 :=
  ⟨Nat.lt_of_lt_of_le h.big hb.size, let ⟨m, hm⟩ := h.len; ⟨m, (hb.cell (p := ⟨0, 0, none⟩) h.big).trans hm⟩, Go.Joins.tab_stays (g := 3) (by kernel_rfl) h.tab hb (Nat.le_refl _)⟩
theorem parse_env (s : ByteArray) (w : World) (hs : s.size ≤ 1000000) (h : Env w) (hg : GcdAt s.data.toList) : Calls Tryz.prog 74 #[.string s] w (ParsePost s.data.toList w) := by
  obtain ⟨m, hm⟩ := h.len
  exact parse_any m s w hs h.big hm hg

theorem numIsInt_any (s : ByteArray) (w : World) (hs : s.size ≤ 1000000) (h : Env w) (hg : GcdAt s.data.toList) : Calls Tryz.prog 26 #[.string s] w fun e w' => e = .returned (.bool (match ratF s.data.toList with | some q => decide (q.den = 1) | none => false)) ∧ Below w.heap.size w w' := by
  have hp := parse_env s w hs h hg
  cases hq : ratF s.data.toList with
  | none =>
    unfold ParsePost at hp
    rw [hq] at hp
    clear hq
    go_enter Tryz.func26, Tryz.ntmps26
    go_wp2_with fail
    refine hp.mono ?_
    rintro e w1 ⟨v, rfl, hv, hb1⟩
    obtain ⟨s1, b1, a1, n1, c1, s2, b2, a2, n2, c2, rfl, h1, h2⟩ := rv_form hv
    have HB := Lib.hid hb1
    clear hv h1 h2 hp hb1
    go_wp2_with fail
    go_ret
    exact ⟨rfl, HB.out.alloc HB.out.size _⟩
  | some q =>
    unfold ParsePost at hp
    rw [hq] at hp
    clear hq
    go_enter Tryz.func26, Tryz.ntmps26
    go_wp2_with fail
    refine hp.mono ?_
    rintro e w1 ⟨v, rfl, hv, hb1⟩
    have hi := fun o => ratIsInt_any v q (w1.alloc o) (hv.far ((Below.refl _ _).alloc (Nat.le_refl _) _))
    obtain ⟨s1, b1, a1, n1, c1, s2, b2, a2, n2, c2, rfl, h1, h2⟩ := rv_form hv
    have HB := Lib.hid hb1
    clear hv h1 h2 hp hb1
    go_wp2_with fail
    refine (hi _).mono ?_
    rintro e w2 ⟨rfl, hb2⟩
    have HB2 := Lib.hid ((HB.out.alloc HB.out.size _).trans (hb2.mono (by have := HB.out.size; simp; omega)))
    clear hb2 hi
    go_wp2_with fail
    go_ret
    exact ⟨rfl, HB2.out⟩
theorem numSign_any (s : ByteArray) (w : World) (hs : s.size ≤ 1000000) (h : Env w) (hg : GcdAt s.data.toList) : Calls Tryz.prog 27 #[.string s] w fun e w' => e = .returned (.int .i64 (sgnI ((ratF s.data.toList).getD 0).num)) ∧ Below w.heap.size w w' := by
  have hp := parse_env s w hs h hg
  unfold ParsePost at hp
  generalize ratF s.data.toList = oq at *
  go_enter Tryz.func27, Tryz.ntmps27
  go_wp2_with fail
  refine hp.mono ?_
  rintro e w1 ⟨v, rfl, hv, hb1⟩
  have hi := fun o => ratSign_any v _ (w1.alloc o) (hv.far ((Below.refl _ _).alloc (Nat.le_refl _) _))
  obtain ⟨s1, b1, a1, n1, c1, s2, b2, a2, n2, c2, rfl, h1, h2⟩ := rv_form hv
  have HB := Lib.hid hb1
  clear hv h1 h2 hp hb1
  go_wp2_with fail
  refine (hi _).mono ?_
  rintro e w2 ⟨rfl, hb2⟩
  have HB2 := Lib.hid ((HB.out.alloc HB.out.size _).trans (hb2.mono (by have := HB.out.size; simp; omega)))
  clear hb2 hi
  go_wp2_with fail
  go_ret
  exact ⟨rfl, HB2.out⟩
end
end Go.Proofs.YtgehimcngljmnaaGreatDoor

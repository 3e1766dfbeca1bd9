/- The statement on Parse: its walk. -/
import Derived.Test.YtgehimcngljmnaaGreatDoorCN
import Derived.Test.YtgehimcngljmnaaGreatDoorCX
import Derived.Test.YtgehimcngljmnaaGreatDoorCZ
namespace Go.Proofs.YtgehimcngljmnaaGreatDoor
open Go.RowKit Nmx

theorem decT_txt (l : List UInt8) : decT l = ⟨(txt (decF l)).toArray⟩ := by
  unfold decT
  cases decF l <;> rfl
theorem numParse_txt (s : ByteArray) (hs : s.size ≤ 7000) (W : World) (h : Env W) : Calls Tryz.prog 21 #[.string s] W fun e w' => e = .returned (.tuple #[.string ⟨(txt (decF s.data.toList)).toArray⟩, .bool (decF s.data.toList).isSome]) ∧ Below W.heap.size W w' := by
  have h1 := numParse_any s W hs h
  rw [decT_txt] at h1
  exact h1
theorem refDecimal_txt (s : ByteArray) (hs : s.size ≤ 7000) (W : World) : Calls Tryz.prog 22 #[.string s] W fun e w' => e = .returned (.tuple #[.string ⟨(txt (decF s.data.toList)).toArray⟩, .bool (decF s.data.toList).isSome]) ∧ Below W.heap.size W w' := refDecimal_any s W (by omega)
theorem digT (x : Int) (W : World) : Calls Tryz.prog 19 #[.int .i64 (modF x 10)] W fun e w' => ∃ t : ByteArray, e = .returned (.string t) ∧ t.size ≤ 25 ∧ Below W.heap.size W w' := by
  have h0 : 0 ≤ modF x 10 := by unfold modF; exact Int.emod_nonneg _ (by omega)
  have h1 : modF x 10 < 10 := by unfold modF; exact Int.emod_lt_of_pos _ (by omega)
  refine (refFromInt_any (modF x 10) W (by omega) (by omega)).mono ?_
  rintro e w' ⟨rfl, hb⟩
  refine ⟨_, rfl, ?_, hb⟩
  have h3 : (decI (modF x 10)).length ≤ 1 + (decN (modF x 10).natAbs).length := by unfold decI; split <;> simp; omega
  have := decN_len_le (n := (modF x 10).natAbs) (k := 2) (by omega) (by omega)
  show (decI (modF x 10)).toArray.size ≤ 25
  simp
  omega
section
set_option maxRecDepth 100000
set_option maxHeartbeats 4000000
theorem np_long1 (s : ByteArray) (a2 a3 : Option Addr) (n c2 m c3 : Nat) (w : World) (h : Env w) (hs : s.size ≤ 9223372036854775807) (hI2 : ArgI w a2 n c2) (hI3 : ArgI w a3 m c3) (ng : Bool) (hk : ¬ s.size ≤ 50) : Calls Tryz.prog 4 #[.string s, .bool ng, .slice a2 n c2, .slice a3 m c3] w fun e w' => e = .returned (.bool true) ∧ Below w.heap.size w w' := by
  have HE := Lib.hid h
  have hsh := short_one w s hs
  have HB0 : Hid (Below w.heap.size w (w.alloc (.cells #[.string s] 9))) := Lib.hid ((Below.refl _ _).alloc (Nat.le_refl _) _)
  have hm2 := Nat.le_trans hI2.le hI2.most
  have hm3 := Nat.le_trans hI3.le hI3.most
  have HI2 := Lib.hid hI2
  have HI3 := Lib.hid hI3
  clear h hI2 hI3
  rw [decide_eq_false hk] at hsh
  go_enter Tryz.func4, Tryz.ntmps4
  go_wp2_with fail
  refine hsh.mono ?_
  rintro e w1 ⟨rfl, hw1⟩
  subst hw1
  clear hsh
  go_wp2_with fail
  refine (awake_env _ (HE.out.far HB0.out)).mono ?_
  rintro e w2 ⟨rfl, hb2⟩
  have HB2 := Lib.hid (HB0.out.trans (hb2.mono HB0.out.size))
  clear hb2
  go_wp2
  go_ret
  exact ⟨rfl, HB2.out⟩
theorem np_long2 (s : ByteArray) (a2 a3 : Option Addr) (n c2 m c3 : Nat) (w : World) (h : Env w) (hs : s.size ≤ 9223372036854775807) (hI2 : ArgI w a2 n c2) (hI3 : ArgI w a3 m c3) (ng : Bool) (hk : s.size ≤ 50) (h2 : 20 < n) : Calls Tryz.prog 4 #[.string s, .bool ng, .slice a2 n c2, .slice a3 m c3] w fun e w' => e = .returned (.bool true) ∧ Below w.heap.size w w' := by
  have HE := Lib.hid h
  have hsh := short_one w s hs
  have HB0 : Hid (Below w.heap.size w (w.alloc (.cells #[.string s] 9))) := Lib.hid ((Below.refl _ _).alloc (Nat.le_refl _) _)
  have hm2 := Nat.le_trans hI2.le hI2.most
  have hm3 := Nat.le_trans hI3.le hI3.most
  have HI2 := Lib.hid hI2
  have HI3 := Lib.hid hI3
  clear h hI2 hI3
  rw [decide_eq_true hk] at hsh
  have h2i : (20 : Int) < (n : Int) := by omega
  go_enter Tryz.func4, Tryz.ntmps4
  go_wp2_with fail
  refine hsh.mono ?_
  rintro e w1 ⟨rfl, hw1⟩
  subst hw1
  clear hsh
  go_wp2_with fail
  refine (awake_env _ (HE.out.far HB0.out)).mono ?_
  rintro e w2 ⟨rfl, hb2⟩
  have HB2 := Lib.hid (HB0.out.trans (hb2.mono HB0.out.size))
  clear hb2
  go_wp2
  go_ret
  exact ⟨rfl, HB2.out⟩
theorem np_long3 (s : ByteArray) (a2 a3 : Option Addr) (n c2 m c3 : Nat) (w : World) (h : Env w) (hs : s.size ≤ 9223372036854775807) (hI2 : ArgI w a2 n c2) (hI3 : ArgI w a3 m c3) (ng : Bool) (hk : s.size ≤ 50) (h2 : n ≤ 20) (h3 : 20 < m) : Calls Tryz.prog 4 #[.string s, .bool ng, .slice a2 n c2, .slice a3 m c3] w fun e w' => e = .returned (.bool true) ∧ Below w.heap.size w w' := by
  have HE := Lib.hid h
  have hsh := short_one w s hs
  have HB0 : Hid (Below w.heap.size w (w.alloc (.cells #[.string s] 9))) := Lib.hid ((Below.refl _ _).alloc (Nat.le_refl _) _)
  have hm2 := Nat.le_trans hI2.le hI2.most
  have hm3 := Nat.le_trans hI3.le hI3.most
  have HI2 := Lib.hid hI2
  have HI3 := Lib.hid hI3
  clear h hI2 hI3
  rw [decide_eq_true hk] at hsh
  have h2i : ¬ (20 : Int) < (n : Int) := by omega
  have h3i : (20 : Int) < (m : Int) := by omega
  go_enter Tryz.func4, Tryz.ntmps4
  go_wp2_with fail
  refine hsh.mono ?_
  rintro e w1 ⟨rfl, hw1⟩
  subst hw1
  clear hsh
  go_wp2_with fail
  refine (awake_env _ (HE.out.far HB0.out)).mono ?_
  rintro e w2 ⟨rfl, hb2⟩
  have HB2 := Lib.hid (HB0.out.trans (hb2.mono HB0.out.size))
  clear hb2
  go_wp2
  go_ret
  exact ⟨rfl, HB2.out⟩
theorem np_s1 (s : ByteArray) (a2 a3 : Option Addr) (n c2 m c3 : Nat) (w : World) (h : Env w) (hs : s.size ≤ 9223372036854775807) (hI2 : ArgI w a2 n c2) (hI3 : ArgI w a3 m c3) (hk : s.size ≤ 50) (h2 : n ≤ 20) (h3 : m ≤ 20) (hm : 0 < m) : Calls Tryz.prog 4 #[.string s, .bool false, .slice a2 n c2, .slice a3 m c3] w fun e w' => e = .returned (.bool true) ∧ Below w.heap.size w w' := by
  have HE := Lib.hid h
  have hsh := short_one w s hs
  have HB0 : Hid (Below w.heap.size w (w.alloc (.cells #[.string s] 9))) := Lib.hid ((Below.refl _ _).alloc (Nat.le_refl _) _)
  have hm2 := Nat.le_trans hI2.le hI2.most
  have hm3 := Nat.le_trans hI3.le hI3.most
  have HI2 := Lib.hid hI2
  have HI3 := Lib.hid hI3
  clear h hI2 hI3
  rw [decide_eq_true hk] at hsh
  have h2i : ¬ (20 : Int) < (n : Int) := by omega
  have h3i : ¬ (20 : Int) < (m : Int) := by omega
  have hmi : (0 : Int) < (m : Int) := by omega
  go_enter Tryz.func4, Tryz.ntmps4
  go_wp2_with fail
  refine hsh.mono ?_
  rintro e w1 ⟨rfl, hw1⟩
  subst hw1
  clear hsh
  go_wp2_with fail
  go_loopg [9, 10] n (fun g s9 i wr => ∃ (k : Nat) (t : ByteArray), k ≤ n ∧ g = n - k ∧ s9 = .string t ∧ i = .int .i64 k ∧ t.size ≤ 1 + 25 * k ∧ Below w.heap.size w wr)
  case atStart => exact ⟨0, _, Nat.zero_le _, by omega, rfl, rfl, by decide, HB0.out⟩
  case round =>
  obtain ⟨k, t, hk10, rfl, rfl, rfl, ht10, hbl⟩ := hrel
  have HBl10 := Lib.hid hbl
  clear hbl
  by_cases hlt10 : k < n
  · obtain ⟨b, off, hao, hb, hx⟩ := (HI2.out.below HBl10.out).rd (by have := HI2.out.le; omega)
    obtain ⟨x, hx⟩ := hx k hlt10
    subst hao
    have hmo := fun W => mod_q x 10 W (by omega) (by omega)
    go_wp2_with fail
    refine (hmo _).mono ?_
    rintro e wa ⟨rfl, hwa⟩
    subst hwa
    go_wp2_with fail
    refine (digT x _).mono ?_
    rintro e wb ⟨u, rfl, hu, hbb⟩
    have HBb := Lib.hid (HBl10.out.trans (hbb.mono HBl10.out.size))
    clear hbb
    go_wp2
    go_roundg (n - (k + 1))
    case rel => exact ⟨k + 1, _, by omega, rfl, rfl, by go_num, by rw [ByteArray.size_append]; omega, HBb.out⟩
    case measure => omega
  obtain rfl : k = n := by omega
  go_wp2_with fail
  go_loopg [9, 11] m (fun g s9 i wr => ∃ (k : Nat) (t : ByteArray), k ≤ m ∧ g = m - k ∧ s9 = .string t ∧ i = .int .i64 k ∧ t.size ≤ 600 + 25 * k ∧ Below w.heap.size w wr)
  case atStart => exact ⟨0, _, Nat.zero_le _, by omega, rfl, rfl, by rw [ByteArray.size_append]; have : (⟨#[46]⟩ : ByteArray).size = 1 := rfl; omega, HBl10.out⟩
  case round =>
  obtain ⟨k, t, hk11, rfl, rfl, rfl, ht11, hbl⟩ := hrel
  have HBl11 := Lib.hid hbl
  clear hbl
  by_cases hlt11 : k < m
  · obtain ⟨b, off, hao, hb, hx⟩ := (HI3.out.below HBl11.out).rd (by have := HI3.out.le; omega)
    obtain ⟨x, hx⟩ := hx k hlt11
    subst hao
    have hmo := fun W => mod_q x 10 W (by omega) (by omega)
    go_wp2_with fail
    refine (hmo _).mono ?_
    rintro e wa ⟨rfl, hwa⟩
    subst hwa
    go_wp2_with fail
    refine (digT x _).mono ?_
    rintro e wb ⟨u, rfl, hu, hbb⟩
    have HBb := Lib.hid (HBl11.out.trans (hbb.mono HBl11.out.size))
    clear hbb
    go_wp2
    go_roundg (m - (k + 1))
    case rel => exact ⟨k + 1, _, by omega, rfl, rfl, by go_num, by rw [ByteArray.size_append]; omega, HBb.out⟩
    case measure => omega
  obtain rfl : k = m := by omega
  go_wp2_with fail
  have hq1 := numParse_txt s (by omega)
  have hq2 := refDecimal_txt s (by omega)
  have hq3 := numParse_txt t (by omega)
  have hq4 := refDecimal_txt t (by omega)
  generalize (⟨(txt (decF s.data.toList)).toArray⟩ : ByteArray) = x1 at *
  generalize (⟨(txt (decF t.data.toList)).toArray⟩ : ByteArray) = x2 at *
  generalize (decF s.data.toList).isSome = y1 at *
  generalize (decF t.data.toList).isSome = y2 at *
  refine (hq1 _ (HE.out.far HBl11.out)).mono ?_
  rintro e w2 ⟨rfl, hb2⟩
  have HB2 := Lib.hid (HBl11.out.trans (hb2.mono HBl11.out.size))
  clear hb2
  go_wp2_with fail
  refine (hq2 _).mono ?_
  rintro e w3 ⟨rfl, hb3⟩
  have HB3 := Lib.hid (HB2.out.trans (hb3.mono HB2.out.size))
  clear hb3
  go_wp2_with fail
  refine (hq3 _ (HE.out.far HB3.out)).mono ?_
  rintro e w4 ⟨rfl, hb4⟩
  have HB4 := Lib.hid (HB3.out.trans (hb4.mono HB3.out.size))
  clear hb4
  go_wp2_with fail
  refine (hq4 _).mono ?_
  rintro e w5 ⟨rfl, hb5⟩
  have HB5 := Lib.hid (HB4.out.trans (hb5.mono HB4.out.size))
  clear hb5
  go_wp2_with fail
  refine (awake_env _ (HE.out.far HB5.out)).mono ?_
  rintro e w6 ⟨rfl, hb6⟩
  have HB6 := Lib.hid (HB5.out.trans (hb6.mono HB5.out.size))
  clear hb6
  go_wp2
  go_ret
  exact ⟨rfl, HB6.out⟩
theorem np_s2 (s : ByteArray) (a2 a3 : Option Addr) (n c2 m c3 : Nat) (w : World) (h : Env w) (hs : s.size ≤ 9223372036854775807) (hI2 : ArgI w a2 n c2) (hI3 : ArgI w a3 m c3) (hk : s.size ≤ 50) (h2 : n ≤ 20) (h3 : m ≤ 20) (hm : 0 < m) : Calls Tryz.prog 4 #[.string s, .bool true, .slice a2 n c2, .slice a3 m c3] w fun e w' => e = .returned (.bool true) ∧ Below w.heap.size w w' := by
  have HE := Lib.hid h
  have hsh := short_one w s hs
  have HB0 : Hid (Below w.heap.size w (w.alloc (.cells #[.string s] 9))) := Lib.hid ((Below.refl _ _).alloc (Nat.le_refl _) _)
  have hm2 := Nat.le_trans hI2.le hI2.most
  have hm3 := Nat.le_trans hI3.le hI3.most
  have HI2 := Lib.hid hI2
  have HI3 := Lib.hid hI3
  clear h hI2 hI3
  rw [decide_eq_true hk] at hsh
  have h2i : ¬ (20 : Int) < (n : Int) := by omega
  have h3i : ¬ (20 : Int) < (m : Int) := by omega
  have hmi : (0 : Int) < (m : Int) := by omega
  go_enter Tryz.func4, Tryz.ntmps4
  go_wp2_with fail
  refine hsh.mono ?_
  rintro e w1 ⟨rfl, hw1⟩
  subst hw1
  clear hsh
  go_wp2_with fail
  go_loopg [9, 10] n (fun g s9 i wr => ∃ (k : Nat) (t : ByteArray), k ≤ n ∧ g = n - k ∧ s9 = .string t ∧ i = .int .i64 k ∧ t.size ≤ 1 + 25 * k ∧ Below w.heap.size w wr)
  case atStart => exact ⟨0, _, Nat.zero_le _, by omega, rfl, rfl, by decide, HB0.out⟩
  case round =>
  obtain ⟨k, t, hk10, rfl, rfl, rfl, ht10, hbl⟩ := hrel
  have HBl10 := Lib.hid hbl
  clear hbl
  by_cases hlt10 : k < n
  · obtain ⟨b, off, hao, hb, hx⟩ := (HI2.out.below HBl10.out).rd (by have := HI2.out.le; omega)
    obtain ⟨x, hx⟩ := hx k hlt10
    subst hao
    have hmo := fun W => mod_q x 10 W (by omega) (by omega)
    go_wp2_with fail
    refine (hmo _).mono ?_
    rintro e wa ⟨rfl, hwa⟩
    subst hwa
    go_wp2_with fail
    refine (digT x _).mono ?_
    rintro e wb ⟨u, rfl, hu, hbb⟩
    have HBb := Lib.hid (HBl10.out.trans (hbb.mono HBl10.out.size))
    clear hbb
    go_wp2
    go_roundg (n - (k + 1))
    case rel => exact ⟨k + 1, _, by omega, rfl, rfl, by go_num, by rw [ByteArray.size_append]; omega, HBb.out⟩
    case measure => omega
  obtain rfl : k = n := by omega
  go_wp2_with fail
  go_loopg [9, 11] m (fun g s9 i wr => ∃ (k : Nat) (t : ByteArray), k ≤ m ∧ g = m - k ∧ s9 = .string t ∧ i = .int .i64 k ∧ t.size ≤ 600 + 25 * k ∧ Below w.heap.size w wr)
  case atStart => exact ⟨0, _, Nat.zero_le _, by omega, rfl, rfl, by rw [ByteArray.size_append]; have : (⟨#[46]⟩ : ByteArray).size = 1 := rfl; omega, HBl10.out⟩
  case round =>
  obtain ⟨k, t, hk11, rfl, rfl, rfl, ht11, hbl⟩ := hrel
  have HBl11 := Lib.hid hbl
  clear hbl
  by_cases hlt11 : k < m
  · obtain ⟨b, off, hao, hb, hx⟩ := (HI3.out.below HBl11.out).rd (by have := HI3.out.le; omega)
    obtain ⟨x, hx⟩ := hx k hlt11
    subst hao
    have hmo := fun W => mod_q x 10 W (by omega) (by omega)
    go_wp2_with fail
    refine (hmo _).mono ?_
    rintro e wa ⟨rfl, hwa⟩
    subst hwa
    go_wp2_with fail
    refine (digT x _).mono ?_
    rintro e wb ⟨u, rfl, hu, hbb⟩
    have HBb := Lib.hid (HBl11.out.trans (hbb.mono HBl11.out.size))
    clear hbb
    go_wp2
    go_roundg (m - (k + 1))
    case rel => exact ⟨k + 1, _, by omega, rfl, rfl, by go_num, by rw [ByteArray.size_append]; omega, HBb.out⟩
    case measure => omega
  obtain rfl : k = m := by omega
  go_wp2_with fail
  have hq1 := numParse_txt s (by omega)
  have hq2 := refDecimal_txt s (by omega)
  have hq3 := numParse_txt t (by omega)
  have hq4 := refDecimal_txt t (by omega)
  generalize (⟨(txt (decF s.data.toList)).toArray⟩ : ByteArray) = x1 at *
  generalize (⟨(txt (decF t.data.toList)).toArray⟩ : ByteArray) = x2 at *
  generalize (decF s.data.toList).isSome = y1 at *
  generalize (decF t.data.toList).isSome = y2 at *
  refine (hq1 _ (HE.out.far HBl11.out)).mono ?_
  rintro e w2 ⟨rfl, hb2⟩
  have HB2 := Lib.hid (HBl11.out.trans (hb2.mono HBl11.out.size))
  clear hb2
  go_wp2_with fail
  refine (hq2 _).mono ?_
  rintro e w3 ⟨rfl, hb3⟩
  have HB3 := Lib.hid (HB2.out.trans (hb3.mono HB2.out.size))
  clear hb3
  go_wp2_with fail
  refine (hq3 _ (HE.out.far HB3.out)).mono ?_
  rintro e w4 ⟨rfl, hb4⟩
  have HB4 := Lib.hid (HB3.out.trans (hb4.mono HB3.out.size))
  clear hb4
  go_wp2_with fail
  refine (hq4 _).mono ?_
  rintro e w5 ⟨rfl, hb5⟩
  have HB5 := Lib.hid (HB4.out.trans (hb5.mono HB4.out.size))
  clear hb5
  go_wp2_with fail
  refine (awake_env _ (HE.out.far HB5.out)).mono ?_
  rintro e w6 ⟨rfl, hb6⟩
  have HB6 := Lib.hid (HB5.out.trans (hb6.mono HB5.out.size))
  clear hb6
  go_wp2
  go_ret
  exact ⟨rfl, HB6.out⟩
theorem np_s3 (s : ByteArray) (a2 a3 : Option Addr) (n c2 m c3 : Nat) (w : World) (h : Env w) (hs : s.size ≤ 9223372036854775807) (hI2 : ArgI w a2 n c2) (hI3 : ArgI w a3 m c3) (hk : s.size ≤ 50) (h2 : n ≤ 20) (h3 : m ≤ 20) (hm : m = 0) : Calls Tryz.prog 4 #[.string s, .bool false, .slice a2 n c2, .slice a3 m c3] w fun e w' => e = .returned (.bool true) ∧ Below w.heap.size w w' := by
  have HE := Lib.hid h
  have hsh := short_one w s hs
  have HB0 : Hid (Below w.heap.size w (w.alloc (.cells #[.string s] 9))) := Lib.hid ((Below.refl _ _).alloc (Nat.le_refl _) _)
  have hm2 := Nat.le_trans hI2.le hI2.most
  have hm3 := Nat.le_trans hI3.le hI3.most
  have HI2 := Lib.hid hI2
  have HI3 := Lib.hid hI3
  clear h hI2 hI3
  rw [decide_eq_true hk] at hsh
  have h2i : ¬ (20 : Int) < (n : Int) := by omega
  have h3i : ¬ (20 : Int) < (m : Int) := by omega
  have hmi : ¬ (0 : Int) < (m : Int) := by omega
  go_enter Tryz.func4, Tryz.ntmps4
  go_wp2_with fail
  refine hsh.mono ?_
  rintro e w1 ⟨rfl, hw1⟩
  subst hw1
  clear hsh
  go_wp2_with fail
  go_loopg [9, 10] n (fun g s9 i wr => ∃ (k : Nat) (t : ByteArray), k ≤ n ∧ g = n - k ∧ s9 = .string t ∧ i = .int .i64 k ∧ t.size ≤ 1 + 25 * k ∧ Below w.heap.size w wr)
  case atStart => exact ⟨0, _, Nat.zero_le _, by omega, rfl, rfl, by decide, HB0.out⟩
  case round =>
  obtain ⟨k, t, hk10, rfl, rfl, rfl, ht10, hbl⟩ := hrel
  have HBl10 := Lib.hid hbl
  clear hbl
  by_cases hlt10 : k < n
  · obtain ⟨b, off, hao, hb, hx⟩ := (HI2.out.below HBl10.out).rd (by have := HI2.out.le; omega)
    obtain ⟨x, hx⟩ := hx k hlt10
    subst hao
    have hmo := fun W => mod_q x 10 W (by omega) (by omega)
    go_wp2_with fail
    refine (hmo _).mono ?_
    rintro e wa ⟨rfl, hwa⟩
    subst hwa
    go_wp2_with fail
    refine (digT x _).mono ?_
    rintro e wb ⟨u, rfl, hu, hbb⟩
    have HBb := Lib.hid (HBl10.out.trans (hbb.mono HBl10.out.size))
    clear hbb
    go_wp2
    go_roundg (n - (k + 1))
    case rel => exact ⟨k + 1, _, by omega, rfl, rfl, by go_num, by rw [ByteArray.size_append]; omega, HBb.out⟩
    case measure => omega
  obtain rfl : k = n := by omega
  go_wp2_with fail
  go_loopg [9, 11] m (fun g s9 i wr => ∃ (k : Nat) (t : ByteArray), k ≤ m ∧ g = m - k ∧ s9 = .string t ∧ i = .int .i64 k ∧ t.size ≤ 600 + 25 * k ∧ Below w.heap.size w wr)
  case atStart => exact ⟨0, _, Nat.zero_le _, by omega, rfl, rfl, by omega, HBl10.out⟩
  case round =>
  obtain ⟨k, t, hk11, rfl, rfl, rfl, ht11, hbl⟩ := hrel
  have HBl11 := Lib.hid hbl
  clear hbl
  by_cases hlt11 : k < m
  · exfalso; omega
  obtain rfl : k = m := by omega
  go_wp2_with fail
  have hq1 := numParse_txt s (by omega)
  have hq2 := refDecimal_txt s (by omega)
  have hq3 := numParse_txt t (by omega)
  have hq4 := refDecimal_txt t (by omega)
  generalize (⟨(txt (decF s.data.toList)).toArray⟩ : ByteArray) = x1 at *
  generalize (⟨(txt (decF t.data.toList)).toArray⟩ : ByteArray) = x2 at *
  generalize (decF s.data.toList).isSome = y1 at *
  generalize (decF t.data.toList).isSome = y2 at *
  refine (hq1 _ (HE.out.far HBl11.out)).mono ?_
  rintro e w2 ⟨rfl, hb2⟩
  have HB2 := Lib.hid (HBl11.out.trans (hb2.mono HBl11.out.size))
  clear hb2
  go_wp2_with fail
  refine (hq2 _).mono ?_
  rintro e w3 ⟨rfl, hb3⟩
  have HB3 := Lib.hid (HB2.out.trans (hb3.mono HB2.out.size))
  clear hb3
  go_wp2_with fail
  refine (hq3 _ (HE.out.far HB3.out)).mono ?_
  rintro e w4 ⟨rfl, hb4⟩
  have HB4 := Lib.hid (HB3.out.trans (hb4.mono HB3.out.size))
  clear hb4
  go_wp2_with fail
  refine (hq4 _).mono ?_
  rintro e w5 ⟨rfl, hb5⟩
  have HB5 := Lib.hid (HB4.out.trans (hb5.mono HB4.out.size))
  clear hb5
  go_wp2_with fail
  refine (awake_env _ (HE.out.far HB5.out)).mono ?_
  rintro e w6 ⟨rfl, hb6⟩
  have HB6 := Lib.hid (HB5.out.trans (hb6.mono HB5.out.size))
  clear hb6
  go_wp2
  go_ret
  exact ⟨rfl, HB6.out⟩
theorem np_s4 (s : ByteArray) (a2 a3 : Option Addr) (n c2 m c3 : Nat) (w : World) (h : Env w) (hs : s.size ≤ 9223372036854775807) (hI2 : ArgI w a2 n c2) (hI3 : ArgI w a3 m c3) (hk : s.size ≤ 50) (h2 : n ≤ 20) (h3 : m ≤ 20) (hm : m = 0) : Calls Tryz.prog 4 #[.string s, .bool true, .slice a2 n c2, .slice a3 m c3] w fun e w' => e = .returned (.bool true) ∧ Below w.heap.size w w' := by
  have HE := Lib.hid h
  have hsh := short_one w s hs
  have HB0 : Hid (Below w.heap.size w (w.alloc (.cells #[.string s] 9))) := Lib.hid ((Below.refl _ _).alloc (Nat.le_refl _) _)
  have hm2 := Nat.le_trans hI2.le hI2.most
  have hm3 := Nat.le_trans hI3.le hI3.most
  have HI2 := Lib.hid hI2
  have HI3 := Lib.hid hI3
  clear h hI2 hI3
  rw [decide_eq_true hk] at hsh
  have h2i : ¬ (20 : Int) < (n : Int) := by omega
  have h3i : ¬ (20 : Int) < (m : Int) := by omega
  have hmi : ¬ (0 : Int) < (m : Int) := by omega
  go_enter Tryz.func4, Tryz.ntmps4
  go_wp2_with fail
  refine hsh.mono ?_
  rintro e w1 ⟨rfl, hw1⟩
  subst hw1
  clear hsh
  go_wp2_with fail
  go_loopg [9, 10] n (fun g s9 i wr => ∃ (k : Nat) (t : ByteArray), k ≤ n ∧ g = n - k ∧ s9 = .string t ∧ i = .int .i64 k ∧ t.size ≤ 1 + 25 * k ∧ Below w.heap.size w wr)
  case atStart => exact ⟨0, _, Nat.zero_le _, by omega, rfl, rfl, by decide, HB0.out⟩
  case round =>
  obtain ⟨k, t, hk10, rfl, rfl, rfl, ht10, hbl⟩ := hrel
  have HBl10 := Lib.hid hbl
  clear hbl
  by_cases hlt10 : k < n
  · obtain ⟨b, off, hao, hb, hx⟩ := (HI2.out.below HBl10.out).rd (by have := HI2.out.le; omega)
    obtain ⟨x, hx⟩ := hx k hlt10
    subst hao
    have hmo := fun W => mod_q x 10 W (by omega) (by omega)
    go_wp2_with fail
    refine (hmo _).mono ?_
    rintro e wa ⟨rfl, hwa⟩
    subst hwa
    go_wp2_with fail
    refine (digT x _).mono ?_
    rintro e wb ⟨u, rfl, hu, hbb⟩
    have HBb := Lib.hid (HBl10.out.trans (hbb.mono HBl10.out.size))
    clear hbb
    go_wp2
    go_roundg (n - (k + 1))
    case rel => exact ⟨k + 1, _, by omega, rfl, rfl, by go_num, by rw [ByteArray.size_append]; omega, HBb.out⟩
    case measure => omega
  obtain rfl : k = n := by omega
  go_wp2_with fail
  go_loopg [9, 11] m (fun g s9 i wr => ∃ (k : Nat) (t : ByteArray), k ≤ m ∧ g = m - k ∧ s9 = .string t ∧ i = .int .i64 k ∧ t.size ≤ 600 + 25 * k ∧ Below w.heap.size w wr)
  case atStart => exact ⟨0, _, Nat.zero_le _, by omega, rfl, rfl, by omega, HBl10.out⟩
  case round =>
  obtain ⟨k, t, hk11, rfl, rfl, rfl, ht11, hbl⟩ := hrel
  have HBl11 := Lib.hid hbl
  clear hbl
  by_cases hlt11 : k < m
  · exfalso; omega
  obtain rfl : k = m := by omega
  go_wp2_with fail
  have hq1 := numParse_txt s (by omega)
  have hq2 := refDecimal_txt s (by omega)
  have hq3 := numParse_txt t (by omega)
  have hq4 := refDecimal_txt t (by omega)
  generalize (⟨(txt (decF s.data.toList)).toArray⟩ : ByteArray) = x1 at *
  generalize (⟨(txt (decF t.data.toList)).toArray⟩ : ByteArray) = x2 at *
  generalize (decF s.data.toList).isSome = y1 at *
  generalize (decF t.data.toList).isSome = y2 at *
  refine (hq1 _ (HE.out.far HBl11.out)).mono ?_
  rintro e w2 ⟨rfl, hb2⟩
  have HB2 := Lib.hid (HBl11.out.trans (hb2.mono HBl11.out.size))
  clear hb2
  go_wp2_with fail
  refine (hq2 _).mono ?_
  rintro e w3 ⟨rfl, hb3⟩
  have HB3 := Lib.hid (HB2.out.trans (hb3.mono HB2.out.size))
  clear hb3
  go_wp2_with fail
  refine (hq3 _ (HE.out.far HB3.out)).mono ?_
  rintro e w4 ⟨rfl, hb4⟩
  have HB4 := Lib.hid (HB3.out.trans (hb4.mono HB3.out.size))
  clear hb4
  go_wp2_with fail
  refine (hq4 _).mono ?_
  rintro e w5 ⟨rfl, hb5⟩
  have HB5 := Lib.hid (HB4.out.trans (hb5.mono HB4.out.size))
  clear hb5
  go_wp2_with fail
  refine (awake_env _ (HE.out.far HB5.out)).mono ?_
  rintro e w6 ⟨rfl, hb6⟩
  have HB6 := Lib.hid (HB5.out.trans (hb6.mono HB5.out.size))
  clear hb6
  go_wp2
  go_ret
  exact ⟨rfl, HB6.out⟩
end
theorem parseLaw_any (s : ByteArray) (ng : Bool) (a2 : Option Addr) (n c2 : Nat) (a3 : Option Addr) (m c3 : Nat) (w : World) (h : Env w) (hs : s.size ≤ 9223372036854775807) (hI2 : ArgI w a2 n c2) (hI3 : ArgI w a3 m c3) : Calls Tryz.prog 4 #[.string s, .bool ng, .slice a2 n c2, .slice a3 m c3] w fun e w' => e = .returned (.bool true) ∧ Below w.heap.size w w' := by
  by_cases hk : s.size ≤ 50
  · by_cases h2 : n ≤ 20
    · by_cases h3 : m ≤ 20
      · by_cases hm : m = 0
        · cases ng
          · exact np_s3 s a2 a3 n c2 m c3 w h hs hI2 hI3 hk h2 h3 hm
          · exact np_s4 s a2 a3 n c2 m c3 w h hs hI2 hI3 hk h2 h3 hm
        · cases ng
          · exact np_s1 s a2 a3 n c2 m c3 w h hs hI2 hI3 hk h2 h3 (by omega)
          · exact np_s2 s a2 a3 n c2 m c3 w h hs hI2 hI3 hk h2 h3 (by omega)
      · exact np_long3 s a2 a3 n c2 m c3 w h hs hI2 hI3 ng hk h2 (by omega)
    · exact np_long2 s a2 a3 n c2 m c3 w h hs hI2 hI3 ng hk (by omega)
  · exact np_long1 s a2 a3 n c2 m c3 w h hs hI2 hI3 ng hk
end Go.Proofs.YtgehimcngljmnaaGreatDoor

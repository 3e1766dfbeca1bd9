/- The functions of two arguments of package number at ANY two texts. -/
import Derived.Test.YtgehimcngljmnaaGreatDoorDE
import Derived.Test.YtgehimcngljmnaaGreatDoorDC
namespace Go.Proofs.YtgehimcngljmnaaGreatDoor
open Go.RowKit Nmx

def GetsB (l : List UInt8) (W : World) (e : Ending) (w' : World) : Prop := e = .returned (.string ⟨l.toArray⟩) ∧ Below W.heap.size W w'
theorem getsB_T {q : Rat} {l : List UInt8} {W : World} {P : Ending → World → Prop} (hl : l = textQ q) (h : ∀ e w', GetsT q W e w' → P e w') : ∀ e w', GetsB l W e w' → P e w' := by
  subst hl
  exact fun e w' hh => h e w' hh
theorem gc_any (s : ByteArray) (hs : s.size ≤ 2900) : GcdAt s.data.toList := gcdAt_any (by rw [size_data]; omega)
theorem ds_ba {s : ByteArray} {q : Rat} (h : ratF s.data.toList = some q) (hs : s.size ≤ 2900) : DS 2900 q := (ds_of h).mono (by rw [size_data]; exact hs)
theorem none_or (a b : Option Rat) : (∃ p q, a = some p ∧ b = some q) ∨ (a.isSome && b.isSome) = false := by
  cases a with
  | none => exact .inr rfl
  | some p => cases b with
    | none => exact .inr rfl
    | some q => exact .inl ⟨p, q, rfl, rfl⟩
theorem on2_no {f : Rat → Rat → Option Rat} {a b : List UInt8} (h : ((ratF a).isSome && (ratF b).isSome) = false) : on2 f a b = [] := by
  cases ha : ratF a with
  | none => exact on2_left ha
  | some p =>
    cases hb : ratF b with
    | none => exact on2_right hb
    | some q => rw [ha, hb] at h; cases h
section
set_option maxRecDepth 100000
set_option maxHeartbeats 4000000
theorem pair_no (s t : ByteArray) (W : World) (hs : s.size ≤ 2900) (ht : t.size ≤ 2900) (h : Env W) (hno : ((ratF s.data.toList).isSome && (ratF t.data.toList).isSome) = false) : Calls Tryz.prog 78 #[.string s, .string t] W fun e w' => ∃ v1 v2, ∃ p q : Rat, e = .returned (.tuple #[v1, v2, .bool false]) ∧ RV w' v1 p ∧ RV w' v2 q ∧ Below W.heap.size W w' := by
  refine (pair_any s t W (by omega) (by omega) h (gc_any s hs) (gc_any t ht)).mono ?_
  rintro e w' ⟨v1, v2, rfl, h1, h2, hb⟩
  rw [hno]
  exact ⟨v1, v2, _, _, rfl, h1, h2, hb⟩
theorem numAdd_no (s t : ByteArray) (W : World) (hs : s.size ≤ 2900) (ht : t.size ≤ 2900) (h : Env W) (hno : ((ratF s.data.toList).isSome && (ratF t.data.toList).isSome) = false) : Calls Tryz.prog 28 #[.string s, .string t] W fun e w' => e = .returned (.string ⟨#[]⟩) ∧ Below W.heap.size W w' := by
  have hpa := pair_no s t W hs ht h hno
  clear h hs ht hno
  go_enter Tryz.func28, Tryz.ntmps28
  go_wp2_with fail
  go_enter Tryz.func81, Tryz.ntmps81
  go_wp2_with fail
  refine hpa.mono ?_
  rintro e w1 ⟨v1, v2, p, q, rfl, hv1, hv2, hb1⟩
  have HB1 := Lib.hid hb1
  obtain ⟨s1, b1, a1, n1, c1, s2, b2, a2, n2, c2, rfl, -, -⟩ := rv_form hv1
  obtain ⟨s3, b3, a3, n3, c3, s4, b4, a4, n4, c4, rfl, -, -⟩ := rv_form hv2
  have HB2 := Lib.hid (below2 w1 (.cells #[.int .i64 s1, .bool b1, .slice a1 n1 c1, .int .i64 s2, .bool b2, .slice a2 n2 c2] 63) (.cells #[.int .i64 s3, .bool b3, .slice a3 n3 c3, .int .i64 s4, .bool b4, .slice a4 n4 c4] 63))
  clear hv1 hv2 hb1 hpa
  go_wp2
  go_ret
  exact ⟨rfl, HB1.out.trans (HB2.out.mono HB1.out.size)⟩
theorem numSub_no (s t : ByteArray) (W : World) (hs : s.size ≤ 2900) (ht : t.size ≤ 2900) (h : Env W) (hno : ((ratF s.data.toList).isSome && (ratF t.data.toList).isSome) = false) : Calls Tryz.prog 30 #[.string s, .string t] W fun e w' => e = .returned (.string ⟨#[]⟩) ∧ Below W.heap.size W w' := by
  have hpa := pair_no s t W hs ht h hno
  clear h hs ht hno
  go_enter Tryz.func30, Tryz.ntmps30
  go_wp2_with fail
  go_enter Tryz.func81, Tryz.ntmps81
  go_wp2_with fail
  refine hpa.mono ?_
  rintro e w1 ⟨v1, v2, p, q, rfl, hv1, hv2, hb1⟩
  have HB1 := Lib.hid hb1
  obtain ⟨s1, b1, a1, n1, c1, s2, b2, a2, n2, c2, rfl, -, -⟩ := rv_form hv1
  obtain ⟨s3, b3, a3, n3, c3, s4, b4, a4, n4, c4, rfl, -, -⟩ := rv_form hv2
  have HB2 := Lib.hid (below2 w1 (.cells #[.int .i64 s1, .bool b1, .slice a1 n1 c1, .int .i64 s2, .bool b2, .slice a2 n2 c2] 63) (.cells #[.int .i64 s3, .bool b3, .slice a3 n3 c3, .int .i64 s4, .bool b4, .slice a4 n4 c4] 63))
  clear hv1 hv2 hb1 hpa
  go_wp2
  go_ret
  exact ⟨rfl, HB1.out.trans (HB2.out.mono HB1.out.size)⟩
theorem numMul_no (s t : ByteArray) (W : World) (hs : s.size ≤ 2900) (ht : t.size ≤ 2900) (h : Env W) (hno : ((ratF s.data.toList).isSome && (ratF t.data.toList).isSome) = false) : Calls Tryz.prog 29 #[.string s, .string t] W fun e w' => e = .returned (.string ⟨#[]⟩) ∧ Below W.heap.size W w' := by
  have hpa := pair_no s t W hs ht h hno
  clear h hs ht hno
  go_enter Tryz.func29, Tryz.ntmps29
  go_wp2_with fail
  go_enter Tryz.func81, Tryz.ntmps81
  go_wp2_with fail
  refine hpa.mono ?_
  rintro e w1 ⟨v1, v2, p, q, rfl, hv1, hv2, hb1⟩
  have HB1 := Lib.hid hb1
  obtain ⟨s1, b1, a1, n1, c1, s2, b2, a2, n2, c2, rfl, -, -⟩ := rv_form hv1
  obtain ⟨s3, b3, a3, n3, c3, s4, b4, a4, n4, c4, rfl, -, -⟩ := rv_form hv2
  have HB2 := Lib.hid (below2 w1 (.cells #[.int .i64 s1, .bool b1, .slice a1 n1 c1, .int .i64 s2, .bool b2, .slice a2 n2 c2] 63) (.cells #[.int .i64 s3, .bool b3, .slice a3 n3 c3, .int .i64 s4, .bool b4, .slice a4 n4 c4] 63))
  clear hv1 hv2 hb1 hpa
  go_wp2
  go_ret
  exact ⟨rfl, HB1.out.trans (HB2.out.mono HB1.out.size)⟩
theorem numDiv_no (s t : ByteArray) (W : World) (hs : s.size ≤ 2900) (ht : t.size ≤ 2900) (h : Env W) (hno : ((ratF s.data.toList).isSome && (ratF t.data.toList).isSome) = false) (h0 : (t.toList == [48]) = false) : Calls Tryz.prog 31 #[.string s, .string t] W fun e w' => e = .returned (.string ⟨#[]⟩) ∧ Below W.heap.size W w' := by
  have hpa := pair_no s t W hs ht h hno
  clear h hs ht hno
  go_enter Tryz.func31, Tryz.ntmps31
  go_wp2_with fail
  go_enter Tryz.func81, Tryz.ntmps81
  go_wp2_with fail
  refine hpa.mono ?_
  rintro e w1 ⟨v1, v2, p, q, rfl, hv1, hv2, hb1⟩
  have HB1 := Lib.hid hb1
  obtain ⟨s1, b1, a1, n1, c1, s2, b2, a2, n2, c2, rfl, -, -⟩ := rv_form hv1
  obtain ⟨s3, b3, a3, n3, c3, s4, b4, a4, n4, c4, rfl, -, -⟩ := rv_form hv2
  have HB2 := Lib.hid (below2 w1 (.cells #[.int .i64 s1, .bool b1, .slice a1 n1 c1, .int .i64 s2, .bool b2, .slice a2 n2 c2] 63) (.cells #[.int .i64 s3, .bool b3, .slice a3 n3 c3, .int .i64 s4, .bool b4, .slice a4 n4 c4] 63))
  clear hv1 hv2 hb1 hpa
  go_wp2
  go_ret
  exact ⟨rfl, HB1.out.trans (HB2.out.mono HB1.out.size)⟩
theorem numDiv_zb (s : ByteArray) (t : ByteArray) (W : World) (h0 : (t.toList == [48]) = true) : Calls Tryz.prog 31 #[.string s, .string t] W fun e w' => e = .returned (.string ⟨#[]⟩) ∧ Below W.heap.size W w' := by
  go_enter Tryz.func31, Tryz.ntmps31
  go_wp2_with fail
  go_ret
  exact ⟨rfl, Below.refl _ _⟩
theorem numCmp_no (s t : ByteArray) (W : World) (hs : s.size ≤ 2900) (ht : t.size ≤ 2900) (h : Env W) (hno : ((ratF s.data.toList).isSome && (ratF t.data.toList).isSome) = false) : Calls Tryz.prog 25 #[.string s, .string t] W fun e w' => e = .returned (.int .i64 0) ∧ Below W.heap.size W w' := by
  have hpa := pair_no s t W hs ht h hno
  clear h hs ht hno
  go_enter Tryz.func25, Tryz.ntmps25
  go_wp2_with fail
  refine hpa.mono ?_
  rintro e w1 ⟨v1, v2, p, q, rfl, hv1, hv2, hb1⟩
  have HB1 := Lib.hid hb1
  obtain ⟨s1, b1, a1, n1, c1, s2, b2, a2, n2, c2, rfl, -, -⟩ := rv_form hv1
  obtain ⟨s3, b3, a3, n3, c3, s4, b4, a4, n4, c4, rfl, -, -⟩ := rv_form hv2
  have HB2 := Lib.hid (below2 w1 (.cells #[.int .i64 s1, .bool b1, .slice a1 n1 c1, .int .i64 s2, .bool b2, .slice a2 n2 c2] 63) (.cells #[.int .i64 s3, .bool b3, .slice a3 n3 c3, .int .i64 s4, .bool b4, .slice a4 n4 c4] 63))
  clear hv1 hv2 hb1 hpa
  go_wp2
  go_ret
  exact ⟨rfl, HB1.out.trans (HB2.out.mono HB1.out.size)⟩
theorem ints_no (s t : ByteArray) (W : World) (hs : s.size ≤ 2900) (ht : t.size ≤ 2900) (h : Env W) (hno : ∀ p q, ratF s.data.toList = some p → ratF t.data.toList = some q → ¬ (p.den = 1 ∧ q.den = 1)) : Calls Tryz.prog 96 #[.string s, .string t] W (IntsNo W) := by
  rcases none_or (ratF s.data.toList) (ratF t.data.toList) with ⟨p, q, hp, hq⟩ | hn
  · by_cases h1 : p.den = 1
    · exact integers_nc s t p q W (by omega) (by omega) h hp hq h1 (fun h2 => hno p q hp hq ⟨h1, h2⟩) (gc_any s hs) (gc_any t ht)
    · exact integers_nb s t p q W (by omega) (by omega) h hp hq h1 (gc_any s hs) (gc_any t ht)
  · exact integers_na s t W (by omega) (by omega) h hn (gc_any s hs) (gc_any t ht)
theorem numQuo_no (s t : ByteArray) (W : World) (hs : s.size ≤ 2900) (ht : t.size ≤ 2900) (h : Env W) (hno : ∀ p q, ratF s.data.toList = some p → ratF t.data.toList = some q → ¬ (p.den = 1 ∧ q.den = 1)) : Calls Tryz.prog 36 #[.string s, .string t] W fun e w' => e = .returned (.string ⟨#[]⟩) ∧ Below W.heap.size W w' := by
  have hin := ints_no s t W hs ht h hno
  clear h hs ht hno
  go_enter Tryz.func36, Tryz.ntmps36
  go_wp2_with fail
  go_enter Tryz.func94, Tryz.ntmps94
  go_wp2_with fail
  refine hin.mono ?_
  rintro e w1 ⟨v1, v2, za, zb, rfl, hv1, hv2, hb1⟩
  have HB1 := Lib.hid hb1
  obtain ⟨s1, b1, a1, n1, c1, rfl⟩ := iv_form hv1
  obtain ⟨s2, b2, a2, n2, c2, rfl⟩ := iv_form hv2
  have HB2 := Lib.hid (below2 w1 (.cells #[.int .i64 s1, .bool b1, .slice a1 n1 c1] 58) (.cells #[.int .i64 s2, .bool b2, .slice a2 n2 c2] 58))
  clear hv1 hv2 hb1 hin
  go_wp2
  go_ret
  exact ⟨rfl, HB1.out.trans (HB2.out.mono HB1.out.size)⟩
theorem numRem_no (s t : ByteArray) (W : World) (hs : s.size ≤ 2900) (ht : t.size ≤ 2900) (h : Env W) (hno : ∀ p q, ratF s.data.toList = some p → ratF t.data.toList = some q → ¬ (p.den = 1 ∧ q.den = 1)) : Calls Tryz.prog 37 #[.string s, .string t] W fun e w' => e = .returned (.string ⟨#[]⟩) ∧ Below W.heap.size W w' := by
  have hin := ints_no s t W hs ht h hno
  clear h hs ht hno
  go_enter Tryz.func37, Tryz.ntmps37
  go_wp2_with fail
  go_enter Tryz.func94, Tryz.ntmps94
  go_wp2_with fail
  refine hin.mono ?_
  rintro e w1 ⟨v1, v2, za, zb, rfl, hv1, hv2, hb1⟩
  have HB1 := Lib.hid hb1
  obtain ⟨s1, b1, a1, n1, c1, rfl⟩ := iv_form hv1
  obtain ⟨s2, b2, a2, n2, c2, rfl⟩ := iv_form hv2
  have HB2 := Lib.hid (below2 w1 (.cells #[.int .i64 s1, .bool b1, .slice a1 n1 c1] 58) (.cells #[.int .i64 s2, .bool b2, .slice a2 n2 c2] 58))
  clear hv1 hv2 hb1 hin
  go_wp2
  go_ret
  exact ⟨rfl, HB1.out.trans (HB2.out.mono HB1.out.size)⟩
theorem numGcd_no (s t : ByteArray) (W : World) (hs : s.size ≤ 2900) (ht : t.size ≤ 2900) (h : Env W) (hno : ∀ p q, ratF s.data.toList = some p → ratF t.data.toList = some q → ¬ (p.den = 1 ∧ q.den = 1)) : Calls Tryz.prog 39 #[.string s, .string t] W fun e w' => e = .returned (.string ⟨#[]⟩) ∧ Below W.heap.size W w' := by
  have hin := ints_no s t W hs ht h hno
  clear h hs ht hno
  go_enter Tryz.func39, Tryz.ntmps39
  go_wp2_with fail
  refine hin.mono ?_
  rintro e w1 ⟨v1, v2, za, zb, rfl, hv1, hv2, hb1⟩
  have HB1 := Lib.hid hb1
  obtain ⟨s1, b1, a1, n1, c1, rfl⟩ := iv_form hv1
  obtain ⟨s2, b2, a2, n2, c2, rfl⟩ := iv_form hv2
  have HB2 := Lib.hid (below2 w1 (.cells #[.int .i64 s1, .bool b1, .slice a1 n1 c1] 58) (.cells #[.int .i64 s2, .bool b2, .slice a2 n2 c2] 58))
  clear hv1 hv2 hb1 hin
  go_wp2
  go_ret
  exact ⟨rfl, HB1.out.trans (HB2.out.mono HB1.out.size)⟩
theorem numLcm_no (s t : ByteArray) (W : World) (hs : s.size ≤ 2900) (ht : t.size ≤ 2900) (h : Env W) (hno : ∀ p q, ratF s.data.toList = some p → ratF t.data.toList = some q → ¬ (p.den = 1 ∧ q.den = 1)) : Calls Tryz.prog 40 #[.string s, .string t] W fun e w' => e = .returned (.string ⟨#[]⟩) ∧ Below W.heap.size W w' := by
  have hin := ints_no s t W hs ht h hno
  clear h hs ht hno
  go_enter Tryz.func40, Tryz.ntmps40
  go_wp2_with fail
  refine hin.mono ?_
  rintro e w1 ⟨v1, v2, za, zb, rfl, hv1, hv2, hb1⟩
  have HB1 := Lib.hid hb1
  obtain ⟨s1, b1, a1, n1, c1, rfl⟩ := iv_form hv1
  obtain ⟨s2, b2, a2, n2, c2, rfl⟩ := iv_form hv2
  have HB2 := Lib.hid (below2 w1 (.cells #[.int .i64 s1, .bool b1, .slice a1 n1 c1] 58) (.cells #[.int .i64 s2, .bool b2, .slice a2 n2 c2] 58))
  clear hv1 hv2 hb1 hin
  go_wp2
  go_ret
  exact ⟨rfl, HB1.out.trans (HB2.out.mono HB1.out.size)⟩
theorem numAdd_any (s t : ByteArray) (W : World) (hs : s.size ≤ 2900) (ht : t.size ≤ 2900) (h : Env W) : Calls Tryz.prog 28 #[.string s, .string t] W (GetsB (on2 addO s.data.toList t.data.toList) W) := by
  rcases none_or (ratF s.data.toList) (ratF t.data.toList) with ⟨p, q, hp, hq⟩ | hn
  · have hc := numAddT (ds_ba hp hs) (ds_ba hq ht) (by omega) (by omega) W h
    rw [on2_some hp hq, tx_of hp, tx_of hq]
    exact hc
  · rw [on2_no hn]
    exact numAdd_no s t W hs ht h hn
theorem numSub_any (s t : ByteArray) (W : World) (hs : s.size ≤ 2900) (ht : t.size ≤ 2900) (h : Env W) : Calls Tryz.prog 30 #[.string s, .string t] W (GetsB (on2 subO s.data.toList t.data.toList) W) := by
  rcases none_or (ratF s.data.toList) (ratF t.data.toList) with ⟨p, q, hp, hq⟩ | hn
  · have hc := numSubT (ds_ba hp hs) (ds_ba hq ht) (by omega) (by omega) W h
    rw [on2_some hp hq, tx_of hp, tx_of hq]
    exact hc
  · rw [on2_no hn]
    exact numSub_no s t W hs ht h hn
theorem numMul_any (s t : ByteArray) (W : World) (hs : s.size ≤ 2900) (ht : t.size ≤ 2900) (h : Env W) : Calls Tryz.prog 29 #[.string s, .string t] W (GetsB (on2 mulO s.data.toList t.data.toList) W) := by
  rcases none_or (ratF s.data.toList) (ratF t.data.toList) with ⟨p, q, hp, hq⟩ | hn
  · have hc := numMulT (ds_ba hp hs) (ds_ba hq ht) (by omega) (by omega) W h
    rw [on2_some hp hq, tx_of hp, tx_of hq]
    exact hc
  · rw [on2_no hn]
    exact numMul_no s t W hs ht h hn
theorem numDiv_any (s t : ByteArray) (W : World) (hs : s.size ≤ 2900) (ht : t.size ≤ 2900) (h : Env W) : Calls Tryz.prog 31 #[.string s, .string t] W (GetsB (on2 divO s.data.toList t.data.toList) W) := by
  rcases none_or (ratF s.data.toList) (ratF t.data.toList) with ⟨p, q, hp, hq⟩ | hn
  · by_cases h0 : q.num = 0
    · have hz := numDiv_zb s t W (by rw [tx_of hq, tx_zero_test, decide_eq_true h0])
      rw [on2_some hp hq]
      unfold divO
      rw [if_pos h0]
      exact hz
    · have hc := numDivT (ds_ba hp hs) (ds_ba hq ht) (by omega) (by omega) h0 W h
      rw [on2_some hp hq, tx_of hp, tx_of hq]
      unfold divO
      rw [if_neg h0]
      exact hc
  · rw [on2_no hn]
    by_cases h0 : (t.toList == [48]) = true
    · exact numDiv_zb s t W h0
    · exact numDiv_no s t W hs ht h hn (by simpa using h0)
theorem numCmp_any (s t : ByteArray) (W : World) (hs : s.size ≤ 2900) (ht : t.size ≤ 2900) (h : Env W) : Calls Tryz.prog 25 #[.string s, .string t] W fun e w' => e = .returned (.int .i64 (cmpO s.data.toList t.data.toList)) ∧ Below W.heap.size W w' := by
  rcases none_or (ratF s.data.toList) (ratF t.data.toList) with ⟨p, q, hp, hq⟩ | hn
  · have hc := numCmpT (ds_ba hp hs) (ds_ba hq ht) (by omega) (by omega) W h
    unfold cmpO
    rw [hp, hq, tx_of hp, tx_of hq]
    exact hc
  · have hc : cmpO s.data.toList t.data.toList = 0 := by
      unfold cmpO
      cases ha : ratF s.data.toList with
      | none => rfl
      | some p =>
        cases hb : ratF t.data.toList with
        | none => rfl
        | some q => rw [ha, hb] at hn; cases hn
    rw [hc]
    exact numCmp_no s t W hs ht h hn
theorem int_num {p : Rat} {d : Nat} (h : DS d p) : p.num.natAbs < 10 ^ d := h.1
theorem on2_quoO_no {a b : List UInt8} (h : ∀ p q, ratF a = some p → ratF b = some q → ¬ (p.den = 1 ∧ q.den = 1)) : on2 quoO a b = [] := by
  rcases none_or (ratF a) (ratF b) with ⟨p, q, hp, hq⟩ | hn
  · rw [on2_some hp hq]
    unfold quoO
    rw [if_neg (fun hh => h p q hp hq ⟨hh.1, hh.2.1⟩)]
    rfl
  · exact on2_no hn
theorem numQuo_any (s t : ByteArray) (W : World) (hs : s.size ≤ 2900) (ht : t.size ≤ 2900) (h : Env W) : Calls Tryz.prog 36 #[.string s, .string t] W (GetsB (on2 quoO s.data.toList t.data.toList) W) := by
  by_cases hb : ∀ p q, ratF s.data.toList = some p → ratF t.data.toList = some q → ¬ (p.den = 1 ∧ q.den = 1)
  · rw [on2_quoO_no hb]
    exact numQuo_no s t W hs ht h hb
  · have hex : ∃ p q : Rat, ratF s.data.toList = some p ∧ ratF t.data.toList = some q ∧ p.den = 1 ∧ q.den = 1 := by
      rcases none_or (ratF s.data.toList) (ratF t.data.toList) with ⟨p, q, hp, hq⟩ | hn
      · by_cases hd : p.den = 1 ∧ q.den = 1
        · exact ⟨p, q, hp, hq, hd.1, hd.2⟩
        · exact absurd (fun p' q' hp' hq' => by rw [hp] at hp'; rw [hq] at hq'; cases hp'; cases hq'; exact hd) hb
      · exact absurd (fun p' q' hp' hq' => by rw [hp', hq'] at hn; cases hn) hb
    obtain ⟨p, q, hp, hq, hpd, hqd⟩ := hex
    have dx := int_num (ds_ba hp hs)
    have dy := int_num (ds_ba hq ht)
    have ep := rat_int hpd
    have eq := rat_int hqd
    rw [on2_some hp hq, tx_of hp, tx_of hq]
    unfold quoO
    by_cases h0 : q.num = 0
    · have hc := numQuo0T dx dy (by omega) (by omega) h0 W h
      rw [← ep, ← eq] at hc
      rw [if_neg (fun hh => hh.2.2 h0)]
      exact hc
    · have hc := numQuoT dx dy (by omega) (by omega) h0 W h
      rw [← ep, ← eq] at hc
      rw [if_pos ⟨hpd, hqd, h0⟩]
      exact hc
theorem on2_remO_no {a b : List UInt8} (h : ∀ p q, ratF a = some p → ratF b = some q → ¬ (p.den = 1 ∧ q.den = 1)) : on2 remO a b = [] := by
  rcases none_or (ratF a) (ratF b) with ⟨p, q, hp, hq⟩ | hn
  · rw [on2_some hp hq]
    unfold remO
    rw [if_neg (fun hh => h p q hp hq ⟨hh.1, hh.2.1⟩)]
    rfl
  · exact on2_no hn
theorem numRem_any (s t : ByteArray) (W : World) (hs : s.size ≤ 2900) (ht : t.size ≤ 2900) (h : Env W) : Calls Tryz.prog 37 #[.string s, .string t] W (GetsB (on2 remO s.data.toList t.data.toList) W) := by
  by_cases hb : ∀ p q, ratF s.data.toList = some p → ratF t.data.toList = some q → ¬ (p.den = 1 ∧ q.den = 1)
  · rw [on2_remO_no hb]
    exact numRem_no s t W hs ht h hb
  · have hex : ∃ p q : Rat, ratF s.data.toList = some p ∧ ratF t.data.toList = some q ∧ p.den = 1 ∧ q.den = 1 := by
      rcases none_or (ratF s.data.toList) (ratF t.data.toList) with ⟨p, q, hp, hq⟩ | hn
      · by_cases hd : p.den = 1 ∧ q.den = 1
        · exact ⟨p, q, hp, hq, hd.1, hd.2⟩
        · exact absurd (fun p' q' hp' hq' => by rw [hp] at hp'; rw [hq] at hq'; cases hp'; cases hq'; exact hd) hb
      · exact absurd (fun p' q' hp' hq' => by rw [hp', hq'] at hn; cases hn) hb
    obtain ⟨p, q, hp, hq, hpd, hqd⟩ := hex
    have dx := int_num (ds_ba hp hs)
    have dy := int_num (ds_ba hq ht)
    have ep := rat_int hpd
    have eq := rat_int hqd
    rw [on2_some hp hq, tx_of hp, tx_of hq]
    unfold remO
    by_cases h0 : q.num = 0
    · have hc := numRem0T dx dy (by omega) (by omega) h0 W h
      rw [← ep, ← eq] at hc
      rw [if_neg (fun hh => hh.2.2 h0)]
      exact hc
    · have hc := numRemT dx dy (by omega) (by omega) h0 W h
      rw [← ep, ← eq] at hc
      rw [if_pos ⟨hpd, hqd, h0⟩]
      exact hc
theorem on2_gcdO_no {a b : List UInt8} (h : ∀ p q, ratF a = some p → ratF b = some q → ¬ (p.den = 1 ∧ q.den = 1)) : on2 gcdO a b = [] := by
  rcases none_or (ratF a) (ratF b) with ⟨p, q, hp, hq⟩ | hn
  · rw [on2_some hp hq]
    unfold gcdO
    rw [if_neg (fun hh => h p q hp hq ⟨hh.1, hh.2⟩)]
    rfl
  · exact on2_no hn
theorem numGcd_any (s t : ByteArray) (W : World) (hs : s.size ≤ 2900) (ht : t.size ≤ 2900) (h : Env W) : Calls Tryz.prog 39 #[.string s, .string t] W (GetsB (on2 gcdO s.data.toList t.data.toList) W) := by
  by_cases hb : ∀ p q, ratF s.data.toList = some p → ratF t.data.toList = some q → ¬ (p.den = 1 ∧ q.den = 1)
  · rw [on2_gcdO_no hb]
    exact numGcd_no s t W hs ht h hb
  · have hex : ∃ p q : Rat, ratF s.data.toList = some p ∧ ratF t.data.toList = some q ∧ p.den = 1 ∧ q.den = 1 := by
      rcases none_or (ratF s.data.toList) (ratF t.data.toList) with ⟨p, q, hp, hq⟩ | hn
      · by_cases hd : p.den = 1 ∧ q.den = 1
        · exact ⟨p, q, hp, hq, hd.1, hd.2⟩
        · exact absurd (fun p' q' hp' hq' => by rw [hp] at hp'; rw [hq] at hq'; cases hp'; cases hq'; exact hd) hb
      · exact absurd (fun p' q' hp' hq' => by rw [hp', hq'] at hn; cases hn) hb
    obtain ⟨p, q, hp, hq, hpd, hqd⟩ := hex
    have dx := int_num (ds_ba hp hs)
    have dy := int_num (ds_ba hq ht)
    have ep := rat_int hpd
    have eq := rat_int hqd
    rw [on2_some hp hq, tx_of hp, tx_of hq]
    unfold gcdO
    have hc := numGcdT dx dy (by omega) (by omega) W h
    rw [← ep, ← eq] at hc
    rw [if_pos ⟨hpd, hqd⟩]
    exact hc
theorem on2_lcmO_no {a b : List UInt8} (h : ∀ p q, ratF a = some p → ratF b = some q → ¬ (p.den = 1 ∧ q.den = 1)) : on2 lcmO a b = [] := by
  rcases none_or (ratF a) (ratF b) with ⟨p, q, hp, hq⟩ | hn
  · rw [on2_some hp hq]
    unfold lcmO
    rw [if_neg (fun hh => h p q hp hq ⟨hh.1, hh.2⟩)]
    rfl
  · exact on2_no hn
theorem numLcm_any (s t : ByteArray) (W : World) (hs : s.size ≤ 2900) (ht : t.size ≤ 2900) (h : Env W) : Calls Tryz.prog 40 #[.string s, .string t] W (GetsB (on2 lcmO s.data.toList t.data.toList) W) := by
  by_cases hb : ∀ p q, ratF s.data.toList = some p → ratF t.data.toList = some q → ¬ (p.den = 1 ∧ q.den = 1)
  · rw [on2_lcmO_no hb]
    exact numLcm_no s t W hs ht h hb
  · have hex : ∃ p q : Rat, ratF s.data.toList = some p ∧ ratF t.data.toList = some q ∧ p.den = 1 ∧ q.den = 1 := by
      rcases none_or (ratF s.data.toList) (ratF t.data.toList) with ⟨p, q, hp, hq⟩ | hn
      · by_cases hd : p.den = 1 ∧ q.den = 1
        · exact ⟨p, q, hp, hq, hd.1, hd.2⟩
        · exact absurd (fun p' q' hp' hq' => by rw [hp] at hp'; rw [hq] at hq'; cases hp'; cases hq'; exact hd) hb
      · exact absurd (fun p' q' hp' hq' => by rw [hp', hq'] at hn; cases hn) hb
    obtain ⟨p, q, hp, hq, hpd, hqd⟩ := hex
    have dx := int_num (ds_ba hp hs)
    have dy := int_num (ds_ba hq ht)
    have ep := rat_int hpd
    have eq := rat_int hqd
    rw [on2_some hp hq, tx_of hp, tx_of hq]
    unfold lcmO
    have hc := numLcmT dx dy (by omega) (by omega) W h
    rw [← ep, ← eq] at hc
    rw [if_pos ⟨hpd, hqd⟩]
    exact hc
end
end Go.Proofs.YtgehimcngljmnaaGreatDoor

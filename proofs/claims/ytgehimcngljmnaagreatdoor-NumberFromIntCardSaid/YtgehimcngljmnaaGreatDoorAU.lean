/- The statement on FromInt: its walk. -/
import Derived.Test.YtgehimcngljmnaaGreatDoorAT
namespace Go.Proofs.YtgehimcngljmnaaGreatDoor
open Go.RowKit Nmx

theorem sgn_cmp (z : Int) : cmpI z 0 = sgnI z := by unfold cmpI sgnI; rfl
theorem dec_short (z : Int) (h1 : -9223372036854775808 ≤ z) (h2 : z ≤ 9223372036854775807) : (decI z).length ≤ 1000000 := by
  have h3 : (decI z).length ≤ 1 + (decN z.natAbs).length := by unfold decI; split <;> simp; omega
  have := decN_len_le (n := z.natAbs) (k := 19) (by omega) (by omega)
  omega
section
set_option maxRecDepth 100000
set_option maxHeartbeats 4000000
theorem numFromInt_any (z : Int) (w : World) (h : Env w) (h1 : -9223372036854775808 ≤ z) (h2 : z ≤ 9223372036854775807) : Calls Tryz.prog 23 #[.int .i64 z] w fun e w' => e = .returned (.string ⟨(decI z).toArray⟩) ∧ Below w.heap.size w w' := by
  have hf := fromInt64_any z w h1 h2
  have HE := Lib.hid h
  clear h h1 h2
  go_enter Tryz.func23, Tryz.ntmps23
  go_wp2_with fail
  refine hf.mono ?_
  rintro e w1 ⟨v, rfl, hv, hb⟩
  have hs := strAt_any z v w1 (HE.out.far hb) hv
  have HB := Lib.hid hb
  clear hb hf hv
  go_wp2_with fail
  refine hs.mono ?_
  rintro e w2 ⟨rfl, hb2⟩
  go_wp2
  go_ret
  exact ⟨rfl, HB.out.trans (hb2.mono HB.out.size)⟩
theorem numInt_least (M : Int) (hM : M = -9223372036854775808) (w : World) (h : Env w) : Calls Tryz.prog 24 #[.string ⟨(decI M).toArray⟩] w fun e w' => e = .returned (.tuple #[.int .i64 M, .bool true]) ∧ Below w.heap.size w w' := by
  have hdt : (⟨(decI M).toArray⟩ : ByteArray).data.toList = decI M := by simp
  have hsz : (⟨(decI M).toArray⟩ : ByteArray).size ≤ 1000000 := by
    rw [sz_txt]
    have h1 : (decI M).length ≤ 1 + (decN M.natAbs).length := by unfold decI; split <;> simp; omega
    have := decN_len_le (n := M.natAbs) (k := 19) (by omega) (by omega)
    omega
  have hp := parse_env ⟨(decI M).toArray⟩ w hsz h (by rw [hdt]; exact gcdAt_decI M)
  unfold ParsePost at hp
  rw [hdt, ratF_decI] at hp
  have hd1 : decide ((M : Rat).den = 1) = true := by simp
  have hq0 : (some (M : Rat)).getD 0 = (M : Rat) := rfl
  rw [hq0] at hp
  have hns : ¬ Small M := by unfold Small; omega
  have hff := fun W (hW : Below w.heap.size w W) => numFromInt_any M W (h.far hW) (by omega) (by omega)
  have HNS := Lib.hid hns
  have HM := Lib.hid hM
  generalize (⟨(decI M).toArray⟩ : ByteArray) = tx at *
  clear h hq0 hns hM hsz hdt
  go_enter Tryz.func24, Tryz.ntmps24
  go_wp2_with fail
  refine hp.mono ?_
  rintro e w1 ⟨v, rfl, hv, hb1⟩
  have hi := fun W hW => ratIsInt_any v (M : Rat) W hW
  rw [hd1] at hi
  have hn := fun W hW => ratNum_any v (M : Rat) W hW
  rw [Rat.num_intCast] at hn
  have HV := Lib.hid hv
  obtain ⟨s1, b1, a1, n1, c1, s2, b2, a2, n2, c2, rfl, -, -⟩ := rv_form hv
  have HB1 := Lib.hid (hb1.alloc hb1.size (.cells #[.int .i64 s1, .bool b1, .slice a1 n1 c1, .int .i64 s2, .bool b2, .slice a2 n2 c2] 63))
  have HVA := Lib.hid (HV.out.far ((Below.refl w1.heap.size w1).alloc (Nat.le_refl _) (.cells #[.int .i64 s1, .bool b1, .slice a1 n1 c1, .int .i64 s2, .bool b2, .slice a2 n2 c2] 63)))
  have HN := Lib.hid (heap_alloc_new w1 (.cells #[.int .i64 s1, .bool b1, .slice a1 n1 c1, .int .i64 s2, .bool b2, .slice a2 n2 c2] 63))
  clear hv hp hb1 hd1 HV
  go_wp2_with fail
  refine (hi _ HVA.out).mono ?_
  rintro e w2 ⟨rfl, hb2⟩
  have HN2 := Lib.hid ((hb2.block _ (lt_of_heap HN.out)).trans HN.out)
  have HV2 := Lib.hid (HVA.out.far hb2)
  have HB2 := Lib.hid (HB1.out.trans (hb2.mono HB1.out.size))
  clear hb2 hi HN HVA HB1
  obtain ⟨y0, y1, y2, y3, y4, y5, -⟩ := Dozen.of HN2.out HN2.out
  generalize w1.heap.size = G at *
  go_wp2_with fail
  refine (hn _ HV2.out).mono ?_
  rintro e w3 ⟨v3, rfl, hv3, hb3⟩
  have hsm := isSmall_any v3 M w3 hv3
  rw [if_neg HNS.out, decide_eq_false HNS.out] at hsm
  have HB3 := Lib.hid (HB2.out.trans (hb3.mono HB2.out.size))
  clear hv3 hb3 hn
  go_wp2_with fail
  refine hsm.mono ?_
  rintro e w4 ⟨rfl, hb4⟩
  have HB4 := Lib.hid (HB3.out.trans (hb4.mono HB3.out.size))
  have hff4 := hff w4 HB4.out
  clear hb4 hsm hff
  go_upto_region 8 with fail
  rw [← HM.out]
  go_wp2_with fail
  refine hff4.mono ?_
  rintro e w5 ⟨rfl, hb5⟩
  have HB5 := Lib.hid (HB4.out.trans (hb5.mono HB4.out.size))
  go_wp2
  go_ret2
  exact ⟨rfl, HB5.out⟩
theorem numInt_any (z : Int) (w : World) (h : Env w) (h1 : -9223372036854775808 ≤ z) (h2 : z ≤ 9223372036854775807) : Calls Tryz.prog 24 #[.string ⟨(decI z).toArray⟩] w fun e w' => e = .returned (.tuple #[.int .i64 z, .bool true]) ∧ Below w.heap.size w w' := by
  by_cases hz : Small z
  · have hdt : (⟨(decI z).toArray⟩ : ByteArray).data.toList = decI z := by simp
    refine numInt_small _ z w ?_ h (by rw [hdt]; exact ratF_decI z) (by rw [hdt]; exact gcdAt_decI z) hz
    rw [sz_txt]; exact dec_short z h1 h2
  · exact numInt_least z (by unfold Small at hz; omega) w h
theorem law_from (n m c : Int) (w : World) (h : Env w) (n1 : -9223372036854775808 ≤ n) (n2 : n ≤ 9223372036854775807) (m1 : -9223372036854775808 ≤ m) (m2 : m ≤ 9223372036854775807) (hc : cmpI n m = c)
    (hcase : (n < m ∧ c = -1) ∨ (m < n ∧ c = 1) ∨ (n = m ∧ c = 0)) :
    Calls Tryz.prog 5 #[.int .i64 n, .int .i64 m] w fun e w' => e = .returned (.bool true) ∧ Below w.heap.size w w' := by
  have hda : (⟨(decI n).toArray⟩ : ByteArray).data.toList = decI n := by simp
  have hdb : (⟨(decI m).toArray⟩ : ByteArray).data.toList = decI m := by simp
  have hd0 : (⟨#[48]⟩ : ByteArray).data.toList = [48] := rfl
  have hsa : (⟨(decI n).toArray⟩ : ByteArray).size ≤ 1000000 := by rw [sz_txt]; exact dec_short n n1 n2
  have hsb : (⟨(decI m).toArray⟩ : ByteArray).size ≤ 1000000 := by rw [sz_txt]; exact dec_short m m1 m2
  have hfa := fun W (hW : Below w.heap.size w W) => numFromInt_any n W (h.far hW) n1 n2
  have hfb := fun W (hW : Below w.heap.size w W) => numFromInt_any m W (h.far hW) m1 m2
  have hin := fun W (hW : Below w.heap.size w W) => numInt_any n W (h.far hW) n1 n2
  have href := fun W => refFromInt_any n W n1 n2
  have hcm := fun W (hW : Below w.heap.size w W) => numCmp_int ⟨(decI n).toArray⟩ ⟨(decI m).toArray⟩ n m W hsa hsb (h.far hW) (by rw [hda]; exact ratF_decI n) (by rw [hdb]; exact ratF_decI m) (by rw [hda]; exact gcdAt_decI n) (by rw [hdb]; exact gcdAt_decI m)
  have hc0 := fun W (hW : Below w.heap.size w W) => numCmp_int ⟨(decI n).toArray⟩ ⟨#[48]⟩ n 0 W hsa (by decide) (h.far hW) (by rw [hda]; exact ratF_decI n) (by rw [hd0, ratF_zero]; rfl) (by rw [hda]; exact gcdAt_decI n) (by rw [hd0, ← decI_zero]; exact gcdAt_decI 0)
  have hii := fun W (hW : Below w.heap.size w W) => numIsInt_any ⟨(decI n).toArray⟩ W hsa (h.far hW) (by rw [hda]; exact gcdAt_decI n)
  have hsg := fun W (hW : Below w.heap.size w W) => numSign_any ⟨(decI n).toArray⟩ W hsa (h.far hW) (by rw [hda]; exact gcdAt_decI n)
  have haw := fun W (hW : Below w.heap.size w W) => awake_ok W (h.far hW)
  rw [hc] at hcm
  rw [sgn_cmp] at hc0
  rw [hda, ratF_decI] at hii hsg
  simp only [Rat.den_intCast, decide_true, Option.getD_some, Rat.num_intCast] at hii hsg
  generalize (⟨(decI n).toArray⟩ : ByteArray) = ta at *
  generalize (⟨(decI m).toArray⟩ : ByteArray) = tb at *
  generalize sgnI n = sg at *
  have hfa0 := hfa w (Below.refl _ _)
  clear hc h hda hdb hd0 hsa hsb n1 n2 m1 m2 hfa
  have H0 : Hid (Below w.heap.size w w) := Lib.hid (Below.refl _ _)
  rcases hcase with ⟨hlt, rfl⟩ | ⟨hlt, rfl⟩ | ⟨rfl, rfl⟩
  all_goals (
    go_enter Tryz.func5, Tryz.ntmps5
    go_wp2_with fail
    refine hfa0.mono ?_
    rintro e u1 ⟨rfl, hb1⟩
    have H1 := Lib.hid (H0.out.trans (hb1.mono H0.out.size))
    have hfb1 := hfb u1 H1.out
    clear hb1 hfa0 hfb
    go_wp2_with fail
    refine hfb1.mono ?_
    rintro e u2 ⟨rfl, hb2⟩
    have H2 := Lib.hid (H1.out.trans (hb2.mono H1.out.size))
    have hin2 := hin u2 H2.out
    clear hb2 hfb1 hin
    go_wp2_with fail
    refine hin2.mono ?_
    rintro e u3 ⟨rfl, hb3⟩
    have H3 := Lib.hid (H2.out.trans (hb3.mono H2.out.size))
    have href3 := href u3
    clear hb3 hin2 href
    go_wp2_with fail
    refine href3.mono ?_
    rintro e u4 ⟨rfl, hb4⟩
    have H4 := Lib.hid (H3.out.trans (hb4.mono H3.out.size))
    have hcm4 := hcm u4 H4.out
    clear hb4 href3 hcm
    go_wp2_with fail
    refine hcm4.mono ?_
    rintro e u5 ⟨rfl, hb5⟩
    have H5 := Lib.hid (H4.out.trans (hb5.mono H4.out.size))
    have hii5 := hii u5 H5.out
    clear hb5 hcm4 hii
    go_wp2_with fail
    refine hii5.mono ?_
    rintro e u6 ⟨rfl, hb6⟩
    have H6 := Lib.hid (H5.out.trans (hb6.mono H5.out.size))
    have hsg6 := hsg u6 H6.out
    clear hb6 hii5 hsg
    go_wp2_with fail
    refine hsg6.mono ?_
    rintro e u7 ⟨rfl, hb7⟩
    have H7 := Lib.hid (H6.out.trans (hb7.mono H6.out.size))
    have hc07 := hc0 u7 H7.out
    clear hb7 hsg6 hc0
    go_wp2_with fail
    refine hc07.mono ?_
    rintro e u8 ⟨rfl, hb8⟩
    have H8 := Lib.hid (H7.out.trans (hb8.mono H7.out.size))
    have haw8 := haw u8 H8.out
    clear hb8 hc07 haw
    go_wp2_with fail
    refine haw8.mono ?_
    rintro e u9 ⟨rfl, hb9⟩
    have H9 := Lib.hid (H8.out.trans (hb9.mono H8.out.size))
    clear hb9 haw8
    go_wp2
    go_ret
    exact ⟨rfl, H9.out⟩)
theorem law_any (n m : Int) (w : World) (h : Env w) (n1 : -9223372036854775808 ≤ n) (n2 : n ≤ 9223372036854775807) (m1 : -9223372036854775808 ≤ m) (m2 : m ≤ 9223372036854775807) :
    Calls Tryz.prog 5 #[.int .i64 n, .int .i64 m] w fun e w' => e = .returned (.bool true) ∧ Below w.heap.size w w' :=
  law_from n m (cmpI n m) w h n1 n2 m1 m2 rfl (by
    unfold cmpI
    rcases Int.lt_trichotomy n m with h1 | h1 | h1
    · exact .inl ⟨h1, if_pos h1⟩
    · exact .inr (.inr ⟨h1, by rw [if_neg (by omega), if_neg (by omega)]⟩)
    · exact .inr (.inl ⟨h1, by rw [if_neg (by omega), if_pos h1]⟩))
end
end Go.Proofs.YtgehimcngljmnaaGreatDoor

/- The statement on functions of two arguments: its walk. -/
import Derived.Test.YtgehimcngljmnaaGreatDoorDF
namespace Go.Proofs.YtgehimcngljmnaaGreatDoor
open Go.RowKit Nmx

section
set_option maxRecDepth 100000
set_option maxHeartbeats 8000000
theorem binary_any (s t : ByteArray) (w : World) (hs : s.size ≤ 110) (ht : t.size ≤ 110) (h : Env w) : Calls Tryz.prog 17 #[.string s, .string t] w fun e w' => e = .returned (.bool true) ∧ Below w.heap.size w w' := by
  have HB0 : Hid (Below w.heap.size w w) := Lib.hid (Below.refl _ _)
  have HE := Lib.hid h
  have nCmp := fun W hW => numCmp_any s t W (by omega) (by omega) hW
  have rCmp := fun W => refCmp_any s t W (by omega) (by omega)
  have nAdd := fun W hW => numAdd_any s t W (by omega) (by omega) hW
  have rAdd := fun W => refAdd_any s t W (by omega) (by omega)
  have nSub := fun W hW => numSub_any s t W (by omega) (by omega) hW
  have rSub := fun W => refSub_any s t W (by omega) (by omega)
  have nMul := fun W hW => numMul_any s t W (by omega) (by omega) hW
  have rMul := fun W => refMul_any s t W (by omega) (by omega)
  have nDiv := fun W hW => numDiv_any s t W (by omega) (by omega) hW
  have rDiv := fun W => refDiv_any s t W (by omega) (by omega)
  have nQuo := fun W hW => numQuo_any s t W (by omega) (by omega) hW
  have rQuo := fun W => refQuo_any s t W (by omega) (by omega)
  have nRem := fun W hW => numRem_any s t W (by omega) (by omega) hW
  have rRem := fun W => refRem_any s t W (by omega) (by omega)
  have nGcd := fun W hW => numGcd_any s t W (by omega) (by omega) hW
  have rGcd := fun W => refGcd_any s t W (by omega) (by omega)
  have nLcm := fun W hW => numLcm_any s t W (by omega) (by omega) hW
  have rLcm := fun W => refLcm_any s t W (by omega) (by omega)
  unfold GetsB at nAdd nSub nMul nDiv nQuo nRem nGcd nLcm
  clear h
  generalize cmpO s.data.toList t.data.toList = tCmp at *
  generalize (⟨(on2 addO s.data.toList t.data.toList).toArray⟩ : ByteArray) = tAdd at *
  generalize (⟨(on2 subO s.data.toList t.data.toList).toArray⟩ : ByteArray) = tSub at *
  generalize (⟨(on2 mulO s.data.toList t.data.toList).toArray⟩ : ByteArray) = tMul at *
  generalize (⟨(on2 divO s.data.toList t.data.toList).toArray⟩ : ByteArray) = tDiv at *
  generalize (⟨(on2 quoO s.data.toList t.data.toList).toArray⟩ : ByteArray) = tQuo at *
  generalize (⟨(on2 remO s.data.toList t.data.toList).toArray⟩ : ByteArray) = tRem at *
  generalize (⟨(on2 gcdO s.data.toList t.data.toList).toArray⟩ : ByteArray) = tGcd at *
  generalize (⟨(on2 lcmO s.data.toList t.data.toList).toArray⟩ : ByteArray) = tLcm at *
  clear hs ht
  go_enter Tryz.func17, Tryz.ntmps17
  go_wp2_with fail
  refine (nCmp _ (HE.out.far HB0.out)).mono ?_
  rintro e w1 ⟨rfl, hb⟩
  have HB1 := Lib.hid (HB0.out.trans (hb.mono HB0.out.size))
  clear hb
  go_wp2_with fail
  refine (rCmp _).mono ?_
  rintro e w2 ⟨rfl, hb⟩
  have HB2 := Lib.hid (HB1.out.trans (hb.mono HB1.out.size))
  clear hb
  go_wp2_with fail
  refine (nAdd _ (HE.out.far HB2.out)).mono ?_
  rintro e w3 ⟨rfl, hb⟩
  have HB3 := Lib.hid (HB2.out.trans (hb.mono HB2.out.size))
  clear hb
  go_wp2_with fail
  refine (rAdd _).mono ?_
  rintro e w4 ⟨rfl, hb⟩
  have HB4 := Lib.hid (HB3.out.trans (hb.mono HB3.out.size))
  clear hb
  go_wp2_with fail
  refine (nSub _ (HE.out.far HB4.out)).mono ?_
  rintro e w5 ⟨rfl, hb⟩
  have HB5 := Lib.hid (HB4.out.trans (hb.mono HB4.out.size))
  clear hb
  go_wp2_with fail
  refine (rSub _).mono ?_
  rintro e w6 ⟨rfl, hb⟩
  have HB6 := Lib.hid (HB5.out.trans (hb.mono HB5.out.size))
  clear hb
  go_wp2_with fail
  refine (nMul _ (HE.out.far HB6.out)).mono ?_
  rintro e w7 ⟨rfl, hb⟩
  have HB7 := Lib.hid (HB6.out.trans (hb.mono HB6.out.size))
  clear hb
  go_wp2_with fail
  refine (rMul _).mono ?_
  rintro e w8 ⟨rfl, hb⟩
  have HB8 := Lib.hid (HB7.out.trans (hb.mono HB7.out.size))
  clear hb
  go_wp2_with fail
  refine (nDiv _ (HE.out.far HB8.out)).mono ?_
  rintro e w9 ⟨rfl, hb⟩
  have HB9 := Lib.hid (HB8.out.trans (hb.mono HB8.out.size))
  clear hb
  go_wp2_with fail
  refine (rDiv _).mono ?_
  rintro e w10 ⟨rfl, hb⟩
  have HB10 := Lib.hid (HB9.out.trans (hb.mono HB9.out.size))
  clear hb
  go_wp2_with fail
  refine (nQuo _ (HE.out.far HB10.out)).mono ?_
  rintro e w11 ⟨rfl, hb⟩
  have HB11 := Lib.hid (HB10.out.trans (hb.mono HB10.out.size))
  clear hb
  go_wp2_with fail
  refine (rQuo _).mono ?_
  rintro e w12 ⟨rfl, hb⟩
  have HB12 := Lib.hid (HB11.out.trans (hb.mono HB11.out.size))
  clear hb
  go_wp2_with fail
  refine (nRem _ (HE.out.far HB12.out)).mono ?_
  rintro e w13 ⟨rfl, hb⟩
  have HB13 := Lib.hid (HB12.out.trans (hb.mono HB12.out.size))
  clear hb
  go_wp2_with fail
  refine (rRem _).mono ?_
  rintro e w14 ⟨rfl, hb⟩
  have HB14 := Lib.hid (HB13.out.trans (hb.mono HB13.out.size))
  clear hb
  go_wp2_with fail
  refine (nGcd _ (HE.out.far HB14.out)).mono ?_
  rintro e w15 ⟨rfl, hb⟩
  have HB15 := Lib.hid (HB14.out.trans (hb.mono HB14.out.size))
  clear hb
  go_wp2_with fail
  refine (rGcd _).mono ?_
  rintro e w16 ⟨rfl, hb⟩
  have HB16 := Lib.hid (HB15.out.trans (hb.mono HB15.out.size))
  clear hb
  go_wp2_with fail
  refine (nLcm _ (HE.out.far HB16.out)).mono ?_
  rintro e w17 ⟨rfl, hb⟩
  have HB17 := Lib.hid (HB16.out.trans (hb.mono HB16.out.size))
  clear hb
  go_wp2_with fail
  refine (rLcm _).mono ?_
  rintro e w18 ⟨rfl, hb⟩
  have HB18 := Lib.hid (HB17.out.trans (hb.mono HB17.out.size))
  clear hb
  go_wp2
  go_ret
  exact ⟨rfl, HB18.out⟩
theorem ss_two (w : World) (s t : ByteArray) : SS (w.alloc (.cells #[.string s, .string t] 9)) (some ⟨w.heap.size, 0, none⟩) w.heap.size 0 2 [s, t] :=
  ⟨Nat.le_refl _, by omega, fun _ => rfl, fun i hi => by
    have h2 : i < 2 := hi
    obtain rfl | rfl : i = 0 ∨ i = 1 := by omega
    · rw [heap_cell (heap_alloc_new w _)]; rfl
    · rw [heap_cell (heap_alloc_new w _)]; rfl⟩
theorem short_two (w : World) (s t : ByteArray) (hs : s.size ≤ 9223372036854775807) (ht : t.size ≤ 9223372036854775807) : Calls Tryz.prog 13 #[.slice (some ⟨w.heap.size, 0, none⟩) 2 2] (w.alloc (.cells #[.string s, .string t] 9)) fun e w' => e = .returned (.bool (decide (s.size ≤ 50 ∧ t.size ≤ 50))) ∧ w' = w.alloc (.cells #[.string s, .string t] 9) := by
  have h := short_any _ _ _ _ _ _ (ss_two w s t) (by simp; exact ⟨hs, ht⟩)
  have e : shortF [s, t] = decide (s.size ≤ 50 ∧ t.size ≤ 50) := by simp [shortF]
  rw [e] at h
  exact h
theorem drawn_any (ao : Option Addr) (len cap : Nat) (w : World) (ha : ArgI w ao len cap) : Calls Tryz.prog 15 #[.slice ao len cap] w fun e w' => e = .returned (.pointer (some ⟨w.heap.size, 0, none⟩)) ∧ w' = w.alloc (.cells #[.slice ao (min len 400) cap, .int .i64 0] 50) := new_any ao len cap w ha
theorem numberBinary_any (s0 s1 : ByteArray) (a2 : Option Addr) (len2 cap2 : Nat) (a3 : Option Addr) (len3 cap3 : Nat) (w : World) (h : Env w) (hs0 : s0.size ≤ 9223372036854775807) (hs1 : s1.size ≤ 9223372036854775807) (ha2 : ArgI w a2 len2 cap2) (ha3 : ArgI w a3 len3 cap3) : Calls Tryz.prog 3 #[.string s0, .string s1, .slice a2 len2 cap2, .slice a3 len3 cap3] w fun e w' => e = .returned (.bool true) ∧ Below w.heap.size w w' := by
  have HE := Lib.hid h
  have HA2 := Lib.hid ha2
  have HA3 := Lib.hid ha3
  have hsh := short_two w s0 s1 hs0 hs1
  have HB0 : Hid (Below w.heap.size w (w.alloc (.cells #[.string s0, .string s1] 9))) := Lib.hid ((Below.refl _ _).alloc (Nat.le_refl _) _)
  clear h ha2 ha3
  go_enter Tryz.func3, Tryz.ntmps3
  by_cases h50 : s0.size ≤ 50 ∧ s1.size ≤ 50
  · rw [decide_eq_true h50] at hsh
    obtain ⟨h5, h6⟩ := h50
    have pk := fun W hW => pick_any s0 a2 len2 cap2 W hs0 hW
    have ba := fun W hW => binary_any s0 s1 W (by omega) (by omega) hW
    clear hs0 hs1 h5 h6
    go_wp2_with fail
    refine hsh.mono ?_
    rintro e w1 ⟨rfl, hw1⟩
    subst hw1
    clear hsh
    have hnew := new_any a2 len2 cap2 _ (HA2.out.below HB0.out)
    generalize w.alloc (.cells #[.string s0, .string s1] 9) = wa at *
    go_wp2_with fail
    refine hnew.mono ?_
    rintro e w2 ⟨rfl, hw2⟩
    subst hw2
    have hnum := number_any _ _ _ _ _ (ch_new (HA2.out.below HB0.out))
    clear hnew
    go_wp2_with fail
    refine hnum.mono ?_
    rintro e w3 ⟨x, hx, rfl, -, hg⟩
    have HX := Lib.hid hx
    have HB3 := Lib.hid ((HB0.out.alloc HB0.out.size (.cells #[.slice a2 (min len2 400) cap2, .int .i64 0] 50)).trans (below_grown hg HB0.out.size (by simp; have := HB0.out.size; omega)))
    clear hg hnum hx
    have hnew := new_any a3 len3 cap3 _ (HA3.out.below HB3.out)
    go_wp2_with fail
    refine hnew.mono ?_
    rintro e w4 ⟨rfl, hw4⟩
    subst hw4
    have hnum := number_any _ _ _ _ _ (ch_new (HA3.out.below HB3.out))
    clear hnew
    go_wp2_with fail
    refine hnum.mono ?_
    rintro e w5 ⟨y, hy, rfl, -, hg⟩
    have HY := Lib.hid hy
    have HB5 := Lib.hid ((HB3.out.alloc HB3.out.size (.cells #[.slice a3 (min len3 400) cap3, .int .i64 0] 50)).trans (below_grown hg HB3.out.size (by simp; have := HB3.out.size; omega)))
    clear hg hnum hy
    have bxy := fun W hW => binary_any (TX x) (TX y) W (by have := DS.sz HX.out; omega) (by have := DS.sz HY.out; omega) hW
    have HZ : Hid ((TX y).size ≤ 110) := Lib.hid (by have := DS.sz HY.out; omega)
    generalize TX x = tx at *
    generalize TX y = ty at *
    go_wp2_with fail
    refine (ba _ (HE.out.far HB5.out)).mono ?_
    rintro e w6 ⟨rfl, hb⟩
    have HB6 := Lib.hid (HB5.out.trans (hb.mono HB5.out.size))
    clear hb
    go_wp2_with fail
    refine (bxy _ (HE.out.far HB6.out)).mono ?_
    rintro e w7 ⟨rfl, hb⟩
    have HB7 := Lib.hid (HB6.out.trans (hb.mono HB6.out.size))
    clear hb
    go_wp2_with fail
    refine (pk _ (HA2.out.below HB7.out)).mono ?_
    rintro e w8 ⟨z, hz, rfl, hb⟩
    have HB8 := Lib.hid (HB7.out.trans (hb.mono HB7.out.size))
    have bz := fun W hW => binary_any (TX z) ty W (by have := DS.sz hz; omega) HZ.out hW
    clear hb hz
    generalize TX z = tz at *
    go_wp2_with fail
    refine (bz _ (HE.out.far HB8.out)).mono ?_
    rintro e w9 ⟨rfl, hb⟩
    have HB9 := Lib.hid (HB8.out.trans (hb.mono HB8.out.size))
    clear hb
    go_wp2_with fail
    refine (awake_env _ (HE.out.far HB9.out)).mono ?_
    rintro e w10 ⟨rfl, hb⟩
    have HB10 := Lib.hid (HB9.out.trans (hb.mono HB9.out.size))
    clear hb
    go_wp2
    go_ret
    exact ⟨rfl, HB10.out⟩
  · rw [decide_eq_false h50] at hsh
    clear h50 hs0 hs1
    go_wp2_with fail
    refine hsh.mono ?_
    rintro e w1 ⟨rfl, hw1⟩
    subst hw1
    clear hsh
    go_wp2_with fail
    refine (awake_env _ (HE.out.far HB0.out)).mono ?_
    rintro e w2 ⟨rfl, hb⟩
    have HB2 := Lib.hid (HB0.out.trans (hb.mono HB0.out.size))
    clear hb
    go_wp2
    go_ret
    exact ⟨rfl, HB2.out⟩
end
end Go.Proofs.YtgehimcngljmnaaGreatDoor

/- Int.Add of package exact. -/
import Derived.Test.YthefknoicelhaaaGreatDoorFNB
namespace Go.Proofs.YthefknoicelhaaaGreatDoor
open Go.RowKit Nmx

/-- far smaller than what fits into memory -/
def Fit (z : Int) : Prop := z.natAbs < BB ^ 1000
theorem fit_len {l : List Nat} {z : Int} (hn : Norm l) (hv : wv l = z.natAbs) (hz : Fit z) : l.length ≤ 1000 := by
  by_cases h0 : l = []
  · subst h0; simp
  · have h1 := norm_pos l hn h0
    unfold Fit at hz
    have h2 : BB ^ (l.length - 1) < BB ^ 1000 := by omega
    have := (Nat.pow_lt_pow_iff_right (by rw [BB_eq]; omega : 1 < BB)).1 h2
    omega
theorem new_third (w : World) (o o' o2 : Obj) : (((w.alloc o).alloc o').alloc o2).heap[w.heap.size + 2]? = some o2 := by
  have := heap_alloc_new ((w.alloc o).alloc o') o2
  simpa using this
theorem below3 (w : World) (o o' o2 : Obj) : Below w.heap.size w (((w.alloc o).alloc o').alloc o2) := (((Below.refl w.heap.size w).alloc (Nat.le_refl _) _).alloc (by simp) _).alloc (by simp; omega) _
theorem cmpWords_v (x y : Value) (a b : List Nat) (w : World) (ha : WV w x a) (hb : WV w y b) (na : Norm a) (nb : Norm b) : Calls Tryz.prog 171 #[x, y] w fun e w' => e = .returned (.int .i64 (cmpN (wv a) (wv b))) ∧ Below w.heap.size w w' := by
  obtain ⟨ao, g, off, cap, rfl, h1⟩ := ha
  obtain ⟨bo, g', off', cap', rfl, h2⟩ := hb
  exact (cmpWords_any ao g off cap a bo g' off' cap' b w h1 h2 na nb).mono fun _ _ ⟨he, n, hw⟩ => ⟨he, by rw [hw]; exact below_drewN (Below.refl _ _) n⟩
theorem norm_le {a b : List Nat} (na : Norm a) (nb : Norm b) (h : wv b ≤ wv a) : b.length ≤ a.length := by
  apply Decidable.byContradiction
  intro hl
  have := norm_len_lt a b na nb (by omega)
  omega

section
set_option maxRecDepth 100000
set_option maxHeartbeats 40000000
theorem add_all :
    (∀ {za zb : Int} {b1 b2 : Bool} {ad1 ad2 : Addr} {n1 c1 n2 c2 : Nat} (w : World) (_ : IV w (.agg #[.int .i64 0, .bool b1, .slice (some ad1) n1 c1]) za) (_ : IV w (.agg #[.int .i64 0, .bool b2, .slice (some ad2) n2 c2]) zb) (_ : Fit za) (_ : Fit zb), Calls Tryz.prog 158 #[.agg #[.int .i64 0, .bool b1, .slice (some ad1) n1 c1], .agg #[.int .i64 0, .bool b2, .slice (some ad2) n2 c2]] w (GetsI (za + zb) w)) ∧
    (∀ {za zb : Int} {b1 : Bool} {ad1 : Addr} {n1 c1 : Nat} (w : World) (_ : IV w (.agg #[.int .i64 0, .bool b1, .slice (some ad1) n1 c1]) za) (_ : IV w (.agg #[.int .i64 zb, .bool false, .slice none 0 0]) zb) (_ : Fit za) (_ : Fit zb), Calls Tryz.prog 158 #[.agg #[.int .i64 0, .bool b1, .slice (some ad1) n1 c1], .agg #[.int .i64 zb, .bool false, .slice none 0 0]] w (GetsI (za + zb) w)) ∧
    (∀ {za zb : Int} {b2 : Bool} {ad2 : Addr} {n2 c2 : Nat} (w : World) (_ : IV w (.agg #[.int .i64 za, .bool false, .slice none 0 0]) za) (_ : IV w (.agg #[.int .i64 0, .bool b2, .slice (some ad2) n2 c2]) zb) (_ : Fit za) (_ : Fit zb), Calls Tryz.prog 158 #[.agg #[.int .i64 za, .bool false, .slice none 0 0], .agg #[.int .i64 0, .bool b2, .slice (some ad2) n2 c2]] w (GetsI (za + zb) w)) ∧
    (∀ {za zb : Int} (w : World) (_ : Small za) (_ : Small zb) (_ : za + zb = -9223372036854775808) (_ : IV w (.agg #[.int .i64 za, .bool false, .slice none 0 0]) za) (_ : IV w (.agg #[.int .i64 zb, .bool false, .slice none 0 0]) zb) (_ : Fit za) (_ : Fit zb), Calls Tryz.prog 158 #[.agg #[.int .i64 za, .bool false, .slice none 0 0], .agg #[.int .i64 zb, .bool false, .slice none 0 0]] w (GetsI (za + zb) w)) ∧
    (∀ {za zb : Int} (w : World) (_ : Small za) (_ : Small zb) (_ : 9223372036854775807 < za + zb) (_ : IV w (.agg #[.int .i64 za, .bool false, .slice none 0 0]) za) (_ : IV w (.agg #[.int .i64 zb, .bool false, .slice none 0 0]) zb) (_ : Fit za) (_ : Fit zb), Calls Tryz.prog 158 #[.agg #[.int .i64 za, .bool false, .slice none 0 0], .agg #[.int .i64 zb, .bool false, .slice none 0 0]] w (GetsI (za + zb) w)) ∧
    (∀ {za zb : Int} (w : World) (_ : Small za) (_ : Small zb) (_ : za + zb < -9223372036854775808) (_ : IV w (.agg #[.int .i64 za, .bool false, .slice none 0 0]) za) (_ : IV w (.agg #[.int .i64 zb, .bool false, .slice none 0 0]) zb) (_ : Fit za) (_ : Fit zb), Calls Tryz.prog 158 #[.agg #[.int .i64 za, .bool false, .slice none 0 0], .agg #[.int .i64 zb, .bool false, .slice none 0 0]] w (GetsI (za + zb) w)) := by
  refine ⟨?g1, ?g2, ?g3, ?g4, ?g5, ?g6⟩
  focus
    intro za zb b1 b2 ad1 ad2 n1 c1 n2 c2 w ha hb fa fb
  rotate_left
  focus
    intro za zb b1 ad1 n1 c1 w ha hb fa fb
  rotate_left
  focus
    intro za zb b2 ad2 n2 c2 w ha hb fa fb
  rotate_left
  focus
    intro za zb w hza hzb hs ha hb fa fb
  rotate_left
  focus
    intro za zb w hza hzb hs ha hb fa fb
  rotate_left
  focus
    intro za zb w hza hzb hs ha hb fa fb
  rotate_left
  all_goals
    have kq := mag_eql
    have kq0 := mag_eql0
    have hpa := fun (W' : World) (hB : Below w.heap.size w W') => parts_any _ _ W' (ha.far hB)
    have hpb := fun (W' : World) (hB : Below w.heap.size w W') => parts_any _ _ W' (hb.far hB)
    clear ha hb
  rotate_left
  rotate_left
  rotate_left
  focus
    obtain ⟨q1, q2⟩ := hza
    obtain ⟨q3, q4⟩ := hzb
    have hpos : ¬ 0 < zb := by omega
    obtain ⟨S, hS⟩ : ∃ S, IntKind.i64.wrap (za + zb) = S := ⟨_, rfl⟩
    have hge : ¬ za < S := by rw [← hS, IntKind.wrap_i64]; omega
    have hbq : (S != -9223372036854775808) = false := by rw [← hS, IntKind.wrap_i64]; simp; omega
    have HS := Lib.hid hs
    clear hs
  rotate_left
  focus
    obtain ⟨q1, q2⟩ := hza
    obtain ⟨q3, q4⟩ := hzb
    have hpos : 0 < zb := by omega
    obtain ⟨S, hS⟩ : ∃ S, IntKind.i64.wrap (za + zb) = S := ⟨_, rfl⟩
    have hge : ¬ za < S := by rw [← hS, IntKind.wrap_i64]; omega
  rotate_left
  focus
    obtain ⟨q1, q2⟩ := hza
    obtain ⟨q3, q4⟩ := hzb
    have hpos : ¬ 0 < zb := by omega
    obtain ⟨S, hS⟩ : ∃ S, IntKind.i64.wrap (za + zb) = S := ⟨_, rfl⟩
    have hge : za < S := by rw [← hS, IntKind.wrap_i64]; omega
  rotate_left
  all_goals
    go_enter Tryz.func158, Tryz.ntmps158
    go_wp2_with fail
    refine (hpa _ (below3 w _ _ _)).mono ?_
    rintro e w1 ⟨va', la, rfl, hva, hna, hla, -, hb1⟩
    have hlla := fit_len hna hla fa
    obtain ⟨hc1, hf1⟩ := bcell hb1
    have hz1 : w.heap.size + 2 < w1.heap.size := by have := hb1.size; simp at this; omega
    have HB1 := Lib.hid ((below3 w _ _ _).trans (hb1.mono (by simp; omega)))
    have HR1 := Lib.hid ((hb1.block (w.heap.size + 2) (by simp)).trans (new_third w _ _ _))
    have HVA := Lib.hid hva
    have HNA := Lib.hid hna
    have HLA := Lib.hid hla
    clear hb1 hva hna hla hpa
    go_wp2_with fail
    refine (hpb _ HB1.out).mono ?_
    rintro e w2 ⟨vb', lb, rfl, hvb, hnb, hlb, -, hb2⟩
    have hllb := fit_len hnb hlb fb
    obtain ⟨hc2, hf2⟩ := bcell hb2
    have hz2 : w.heap.size + 2 < w2.heap.size := by have := hb2.size; omega
    have HB2 := Lib.hid (HB1.out.trans (hb2.mono HB1.out.size))
    have HR2 := Lib.hid ((hb2.block (w.heap.size + 2) hz1).trans HR1.out)
    have HVA2 := Lib.hid (HVA.out.far hb2)
    have HVB := Lib.hid hvb
    have HNB := Lib.hid hnb
    have HLB := Lib.hid hlb
    clear hb2 hvb hnb hlb hpb HB1 HR1 HVA
    by_cases hsg : decide (za < 0) = decide (zb < 0)
    · have hsb : (decide (za < 0) == decide (zb < 0)) = true := by simpa using hsg
      have HSG := Lib.hid hsg
      clear hsg
      have hadd := addWords_any va' vb' la lb w2 HVA2.out HVB.out (by omega) (by omega)
      go_wp2_with fail
      refine hadd.mono ?_
      rintro e w3 ⟨v3, l3, rfl, hv3, hw3, hl3, hb3⟩
      have hfp := fromParts_any (decide (za < 0)) v3 l3 w3 hv3 (by omega)
      have HW3 := Lib.hid hw3
      obtain ⟨hc3, hf3⟩ := bcell hb3
      have hz3 : w.heap.size + 2 < w3.heap.size := by have := hb3.size; omega
      have HB3 := Lib.hid (HB2.out.trans (hb3.mono HB2.out.size))
      have HR3 := Lib.hid ((hb3.block (w.heap.size + 2) hz2).trans HR2.out)
      clear hb3 hv3 hw3 hadd
      go_wp2_with fail
      refine hfp.mono ?_
      rintro e w4 ⟨v4, rfl, hv4, hb4⟩
      have HV4 := Lib.hid hv4
      obtain ⟨s4, b4, a4, n4, c4, rfl⟩ := iv_form hv4
      obtain ⟨hc4, hf4⟩ := bcell hb4
      have HB4 := Lib.hid (HB3.out.trans (hb4.mono HB3.out.size))
      have HR4 := Lib.hid ((hb4.block (w.heap.size + 2) hz3).trans HR3.out)
      have HE : Hid (sgn (decide (za < 0)) (wv l3) = za + zb) := Lib.hid (by
        have h1 := HSG.out
        have h2 := HLA.out
        have h3 := HLB.out
        rw [HW3.out, h2, h3]
        by_cases hz : za < 0
        · rw [decide_eq_true hz] at h1 ⊢
          have : zb < 0 := by simpa using h1.symm
          unfold sgn; simp; omega
        · rw [decide_eq_false hz] at h1 ⊢
          have : ¬ zb < 0 := by simpa using h1.symm
          unfold sgn; simp; omega)
      clear hb4 hv4 hfp
      go_wp2
      rw [← HE.out]
      exact end_int Tryz.results158 rfl rfl HR4.out HV4.out HB4.out (by omega)
    · have hsb : (decide (za < 0) == decide (zb < 0)) = false := by simpa using hsg
      have HSG := Lib.hid hsg
      clear hsg
      have hcmp := cmpWords_v _ _ la lb w2 HVA2.out HVB.out HNA.out HNB.out
      go_wp2_with fail
      refine hcmp.mono ?_
      rintro e w3 ⟨he, hb3⟩
      obtain ⟨hc3, hf3⟩ := bcell hb3
      have hz3 : w.heap.size + 2 < w3.heap.size := by have := hb3.size; omega
      have HB3 := Lib.hid (HB2.out.trans (hb3.mono HB2.out.size))
      have HR3 := Lib.hid ((hb3.block (w.heap.size + 2) hz2).trans HR2.out)
      have HVA3 := Lib.hid (HVA2.out.far hb3)
      have HVB3 := Lib.hid (HVB.out.far hb3)
      clear hb3 hcmp HVA2 HVB
      rcases Nat.lt_trichotomy (wv la) (wv lb) with hlt | hlt | hlt
      · rw [cmpN_lt hlt] at he
        subst he
        have hsub := subWords_any vb' va' lb la w3 HVB3.out HVA3.out (by omega) (norm_le HNB.out HNA.out (by omega)) (by omega)
        have hne : True := trivial
        go_wp2_with fail
        refine hsub.mono ?_
        rintro e w4 ⟨v4, l4, rfl, hv4, hw4, hl4, hb4⟩
        have hfp := fromParts_any (decide (zb < 0)) v4 l4 w4 hv4 (by omega)
        have HW4 := Lib.hid hw4
        obtain ⟨hc4, hf4⟩ := bcell hb4
        have hz4 : w.heap.size + 2 < w4.heap.size := by have := hb4.size; omega
        have HB4 := Lib.hid (HB3.out.trans (hb4.mono HB3.out.size))
        have HR4 := Lib.hid ((hb4.block (w.heap.size + 2) hz3).trans HR3.out)
        have HE : Hid (sgn (decide (zb < 0)) (wv l4) = za + zb) := Lib.hid (by
          have h1 := HSG.out
          have h2 := HLA.out
          have h3 := HLB.out
          rw [HW4.out]
          by_cases hz : za < 0
          · by_cases hzz : zb < 0
            · exact absurd (by rw [decide_eq_true hz, decide_eq_true hzz]) h1
            · simp [hzz, sgn]; omega
          · by_cases hzz : zb < 0
            · simp [hzz, sgn]; omega
            · exact absurd (by rw [decide_eq_false hz, decide_eq_false hzz]) h1)
        clear hb4 hv4 hw4 hsub
        go_wp2_with fail
        refine hfp.mono ?_
        rintro e w5 ⟨v5, rfl, hv5, hb5⟩
        have HV5 := Lib.hid hv5
        obtain ⟨s5, b5, a5, n5, c5, rfl⟩ := iv_form hv5
        obtain ⟨hc5, hf5⟩ := bcell hb5
        have HB5 := Lib.hid (HB4.out.trans (hb5.mono HB4.out.size))
        have HR5 := Lib.hid ((hb5.block (w.heap.size + 2) hz4).trans HR4.out)
        clear hb5 hv5 hfp
        go_wp2
        rw [← HE.out]
        exact end_int Tryz.results158 rfl rfl HR5.out HV5.out HB5.out (by omega)
      · rw [cmpN_eq hlt] at he
        subst he
        have HE : Hid (za + zb = 0) := Lib.hid (by
          have h1 := HSG.out
          have h2 := HLA.out
          have h3 := HLB.out
          by_cases hz : za < 0
          · by_cases hzz : zb < 0
            · exact absurd (by rw [decide_eq_true hz, decide_eq_true hzz]) h1
            · omega
          · by_cases hzz : zb < 0
            · omega
            · exact absurd (by rw [decide_eq_false hz, decide_eq_false hzz]) h1)
        clear hlt
        go_wp2
        rw [HE.out]
        exact end_int Tryz.results158 rfl rfl HR3.out (small_iv _ (by unfold Small; omega)) HB3.out (by omega)
      · rw [cmpN_gt hlt] at he
        subst he
        have hsub := subWords_any va' vb' la lb w3 HVA3.out HVB3.out (by omega) (norm_le HNA.out HNB.out (by omega)) (by omega)
        have hne : True := trivial
        go_wp2_with fail
        refine hsub.mono ?_
        rintro e w4 ⟨v4, l4, rfl, hv4, hw4, hl4, hb4⟩
        have hfp := fromParts_any (decide (za < 0)) v4 l4 w4 hv4 (by omega)
        have HW4 := Lib.hid hw4
        obtain ⟨hc4, hf4⟩ := bcell hb4
        have hz4 : w.heap.size + 2 < w4.heap.size := by have := hb4.size; omega
        have HB4 := Lib.hid (HB3.out.trans (hb4.mono HB3.out.size))
        have HR4 := Lib.hid ((hb4.block (w.heap.size + 2) hz3).trans HR3.out)
        have HE : Hid (sgn (decide (za < 0)) (wv l4) = za + zb) := Lib.hid (by
          have h1 := HSG.out
          have h2 := HLA.out
          have h3 := HLB.out
          rw [HW4.out]
          by_cases hz : za < 0
          · by_cases hzz : zb < 0
            · exact absurd (by rw [decide_eq_true hz, decide_eq_true hzz]) h1
            · simp [hz, sgn]; omega
          · by_cases hzz : zb < 0
            · simp [hz, sgn]; omega
            · exact absurd (by rw [decide_eq_false hz, decide_eq_false hzz]) h1)
        clear hb4 hv4 hw4 hsub
        go_wp2_with fail
        refine hfp.mono ?_
        rintro e w5 ⟨v5, rfl, hv5, hb5⟩
        have HV5 := Lib.hid hv5
        obtain ⟨s5, b5, a5, n5, c5, rfl⟩ := iv_form hv5
        obtain ⟨hc5, hf5⟩ := bcell hb5
        have HB5 := Lib.hid (HB4.out.trans (hb5.mono HB4.out.size))
        have HR5 := Lib.hid ((hb5.block (w.heap.size + 2) hz4).trans HR4.out)
        clear hb5 hv5 hfp
        go_wp2
        rw [← HE.out]
        exact end_int Tryz.results158 rfl rfl HR5.out HV5.out HB5.out (by omega)
theorem add_ss0 {za zb : Int} (w : World) (hza : Small za) (hzb : Small zb) (hs : Small (za + zb)) :
    Calls Tryz.prog 158 #[.agg #[.int .i64 za, .bool false, .slice none 0 0], .agg #[.int .i64 zb, .bool false, .slice none 0 0]] w (GetsI (za + zb) w) := by
  have kq0 := mag_eql0
  have HS := Lib.hid hs
  obtain ⟨q1, q2⟩ := hza
  obtain ⟨q3, q4⟩ := hzb
  obtain ⟨q5, q6⟩ := hs
  have hd : (decide (za < za + zb) == decide (0 < zb)) = true := by
    by_cases h : 0 < zb
    · rw [decide_eq_true h, decide_eq_true (by omega)]; rfl
    · rw [decide_eq_false h, decide_eq_false (by omega)]; rfl
  have hne : (za + zb != -9223372036854775808) = true := by simp; omega
  go_enter Tryz.func158, Tryz.ntmps158
  go_wp2
  exact bodyPost_ret (v := smallV (za + zb)) (by simp [results, Tryz.results158, go_sem, smallV]) rfl ⟨_, rfl, small_iv _ HS.out, below3 w _ _ _⟩
theorem add_any (x y : Value) (za zb : Int) (w : World) (ha : IV w x za) (hb : IV w y zb) (fa : Fit za) (fb : Fit zb) : Calls Tryz.prog 158 #[x, y] w (GetsI (za + zb) w) := by
  rcases ha with ⟨rfl, h1⟩ | ⟨b1, g1, o1, c1, l1, rfl, h2, h3, h4⟩
  · rcases hb with ⟨rfl, k1⟩ | ⟨b2, g2, o2, c2, l2, rfl, k2, k3, k4⟩
    · by_cases hs : Small (za + zb)
      · exact add_ss0 w h1 k1 hs
      · rcases Int.lt_trichotomy (za + zb) (-9223372036854775808) with h | h | h
        · exact add_all.2.2.2.2.2 w h1 k1 h (.inl ⟨rfl, h1⟩) (.inl ⟨rfl, k1⟩) fa fb
        · exact add_all.2.2.2.1 w h1 k1 h (.inl ⟨rfl, h1⟩) (.inl ⟨rfl, k1⟩) fa fb
        · exact add_all.2.2.2.2.1 w h1 k1 (by unfold Small at hs; omega) (.inl ⟨rfl, h1⟩) (.inl ⟨rfl, k1⟩) fa fb
    · exact add_all.2.2.1 w (.inl ⟨rfl, h1⟩) (.inr ⟨b2, g2, o2, c2, l2, rfl, k2, k3, k4⟩) fa fb
  · rcases hb with ⟨rfl, k1⟩ | ⟨b2, g2, o2, c2, l2, rfl, k2, k3, k4⟩
    · exact add_all.2.1 w (.inr ⟨b1, g1, o1, c1, l1, rfl, h2, h3, h4⟩) (.inl ⟨rfl, k1⟩) fa fb
    · exact add_all.1 w (.inr ⟨b1, g1, o1, c1, l1, rfl, h2, h3, h4⟩) (.inr ⟨b2, g2, o2, c2, l2, rfl, k2, k3, k4⟩) fa fb
end
end Go.Proofs.YthefknoicelhaaaGreatDoor

/- canonicalInt of package exact. -/
import Derived.Test.YtgehimcngljmnaaGreatDoorV
namespace Go.Proofs.YtgehimcngljmnaaGreatDoor
open Go.RowKit Nmx

theorem trim_minus (l : List UInt8) : Lib.trimPrefix l [45] = body l := by
  unfold Lib.trimPrefix body sgB
  cases l with
  | nil => rfl
  | cons c r =>
    by_cases h : c = 45
    · subst h; simp [Lib.hasPrefix]
    · have h2 : (some c == some (45 : UInt8)) = false := by simp [h]
      have h3 : Lib.hasPrefix (c :: r) [45] = false := by
        have e : Lib.hasPrefix (c :: r) [45] = decide (c = 45) := by
          show ((45 : UInt8) == c && true) = decide (c = 45)
          rw [Bool.and_true, Bool.eq_iff_iff]
          simp only [beq_iff_eq, decide_eq_true_eq]
          exact eq_comm
        rw [e]; simpa using h
      rw [h3, List.head?_cons, h2]; rfl
def CanonPost (l : List UInt8) (w : World) (e : Ending) (w' : World) : Prop := ∃ v, e = .returned (.tuple #[v, .bool (canonF l).isSome]) ∧ IV w' v ((canonF l).getD 0) ∧ Below w.heap.size w w'
theorem cp_none {l : List UInt8} {w : World} (h : canonF l = none) : ∀ w3 v, IV w3 v 0 → Below w.heap.size w w3 → CanonPost l w (.returned (.tuple #[v, .bool false])) w3 := fun w3 v h1 h2 => ⟨v, by rw [h]; rfl, by rw [h]; exact h1, h2⟩
theorem cp_same {l : List UInt8} {w : World} (h : canonF l = intF l) : ∀ w3 v, IV w3 v ((intF l).getD 0) → Below w.heap.size w w3 → CanonPost l w (.returned (.tuple #[v, .bool (intF l).isSome])) w3 := fun w3 v h1 h2 => ⟨v, by rw [h], by rw [h]; exact h1, h2⟩

section
set_option maxRecDepth 100000
set_option maxHeartbeats 4000000
theorem canonicalInt_any (s : ByteArray) (w : World) (hs : s.size ≤ 1000000) : Calls Tryz.prog 134 #[.string s] w (CanonPost s.data.toList w) := by
  have htp := fun W => Tryz.strings_TrimPrefix s ⟨#[45]⟩ W
  have ht : Lib.trimPrefix s.data.toList (⟨#[45]⟩ : ByteArray).data.toList = body s.data.toList := trim_minus _
  rw [ht] at htp
  clear ht
  have hpi := fun W => parseInt_any s W hs
  have hbel : Below w.heap.size w (w.alloc (.cells #[.int .i64 0, .bool false, .slice none 0 0] 58)) := (Below.refl _ _).alloc (Nat.le_refl _) _
  have HBL := Lib.hid hbel
  have HRR : Hid ((w.alloc (.cells #[.int .i64 0, .bool false, .slice none 0 0] 58)).heap[w.heap.size]? = some (.cells #[.int .i64 0, .bool false, .slice none 0 0] 58 (0, 0))) := Lib.hid (heap_alloc_new w _)
  have HCF : Hid (canonF s.data.toList = if body s.data.toList = [] ∨ ((body s.data.toList).headD 0 = 48 ∧ s.data.toList ≠ [48]) then none else intF s.data.toList) := Lib.hid rfl
  clear hbel
  obtain ⟨d, hd⟩ : ∃ d : ByteArray, (⟨(body s.data.toList).toArray⟩ : ByteArray) = d := ⟨_, rfl⟩
  rw [hd] at htp
  have hdl : d.data.toList = body s.data.toList := by rw [← hd]
  rw [← hdl] at HCF
  have hE := isE d
  clear hd hdl
  by_cases hd0 : d.size = 0
  · have hE1 : d.toList.isEmpty = true := by rw [hE]; simpa using hd0
    have hE2 : d.toList = [] := by simpa using hE1
    have HN : Hid (canonF s.data.toList = none) := Lib.hid (by rw [HCF.out, if_pos (.inl (List.length_eq_zero_iff.1 (by rw [size_data]; exact hd0)))])
    clear hE
    go_enter Tryz.func134, Tryz.ntmps134
    go_wp2_with fail
    refine (htp _).mono ?_
    rintro e w1 ⟨rfl, rfl⟩
    go_wp2_with fail
    exact end_ib0 Tryz.results134 rfl rfl rfl HRR.out (zeroIV _) HBL.out (cp_none HN.out)
  · have hE1 : d.toList.isEmpty = false := by rw [hE]; simpa using hd0
    have hE2 : ¬ d.toList = [] := fun e => by rw [e] at hE1; cases hE1
    have hd1 : 0 < d.size := by omega
    have hne : d.data.toList ≠ [] := fun e => by have := size_data d; rw [e] at this; simp at this; omega
    have hh : d.data.toList.headD 0 = d[0] := by
      have := byte_at d 0 hd1
      rw [← List.head?_eq_getElem?] at this
      rw [List.headD_eq_head?_getD, this]; rfl
    have HNE := Lib.hid hne
    have HH := Lib.hid hh
    clear hE hne hh
    by_cases h48 : d[0].toNat = 48
    · by_cases hz : s.data.toList = [48]
      · have HS : Hid (canonF s.data.toList = intF s.data.toList) := Lib.hid (by rw [HCF.out, if_neg (by rintro (h | h); exact HNE.out h; exact h.2 hz)])
        have hzb : (s.toList == [48]) = true := by rw [ByteArray.toList_eq, hz]; rfl
        have hzb2 : (s.toList != [48]) = false := by rw [ByteArray.toList_eq, hz]; rfl
        have h48b : ((d[0].toNat : Int) == 48) = true := by simp [h48]
        clear h48 hz
        go_enter Tryz.func134, Tryz.ntmps134
        go_wp2_with fail
        refine (htp _).mono ?_
        rintro e w1 ⟨rfl, rfl⟩
        go_wp2_with fail
        refine (hpi _).mono ?_
        rintro e w1 ⟨v1, rfl, hv1, hb1⟩
        have HV1 := Lib.hid hv1
        obtain ⟨s1, b1, a1, n1, c1, rfl⟩ := iv_form hv1
        have HB1 := Lib.hid (HBL.out.trans (hb1.mono (by simp)))
        have HR1 := Lib.hid ((hb1.block w.heap.size (by simp)).trans HRR.out)
        obtain ⟨r0, r1, r2, r3, r4, r5⟩ := Res.cells HR1.out
        clear hb1 hv1 hpi
        generalize hok : (intF s.data.toList).isSome = ok at *
        have HOK := Lib.hid hok
        clear hok
        go_wp2_with fail
        exact end_ib Tryz.results134 rfl rfl rfl HR1.out HV1.out HB1.out (Nat.le_refl _) (by rw [← HOK.out]; exact cp_same HS.out)
      · have HN : Hid (canonF s.data.toList = none) := Lib.hid (by
          have h : (d.data.toList).headD 0 = 48 := by rw [HH.out]; exact UInt8.toNat_inj.1 h48
          rw [HCF.out, if_pos (.inr ⟨h, hz⟩)])
        have hzb : (s.toList == [48]) = false := by rw [ByteArray.toList_eq]; simpa using hz
        have hzb2 : (s.toList != [48]) = true := by rw [ByteArray.toList_eq]; simpa using hz
        have h48b : ((d[0].toNat : Int) == 48) = true := by simp [h48]
        clear h48 hz
        go_enter Tryz.func134, Tryz.ntmps134
        go_wp2_with fail
        refine (htp _).mono ?_
        rintro e w1 ⟨rfl, rfl⟩
        go_wp2_with fail
        exact end_ib0 Tryz.results134 rfl rfl rfl HRR.out (zeroIV _) HBL.out (cp_none HN.out)
    · have HS : Hid (canonF s.data.toList = intF s.data.toList) := Lib.hid (by
        rw [HCF.out, if_neg (by
          rintro (h | h)
          · exact HNE.out h
          · have := h.1; rw [HH.out] at this; rw [this] at h48; exact h48 rfl)])
      have h48b : ((d[0].toNat : Int) == 48) = false := by simp; omega
      clear h48
      go_enter Tryz.func134, Tryz.ntmps134
      go_wp2_with fail
      refine (htp _).mono ?_
      rintro e w1 ⟨rfl, rfl⟩
      go_wp2_with fail
      refine (hpi _).mono ?_
      rintro e w1 ⟨v1, rfl, hv1, hb1⟩
      have HV1 := Lib.hid hv1
      obtain ⟨s1, b1, a1, n1, c1, rfl⟩ := iv_form hv1
      have HB1 := Lib.hid (HBL.out.trans (hb1.mono (by simp)))
      have HR1 := Lib.hid ((hb1.block w.heap.size (by simp)).trans HRR.out)
      obtain ⟨r0, r1, r2, r3, r4, r5⟩ := Res.cells HR1.out
      clear hb1 hv1 hpi
      generalize hok : (intF s.data.toList).isSome = ok at *
      have HOK := Lib.hid hok
      clear hok
      go_wp2_with fail
      exact end_ib Tryz.results134 rfl rfl rfl HR1.out HV1.out HB1.out (Nat.le_refl _) (by rw [← HOK.out]; exact cp_same HS.out)
end
end Go.Proofs.YtgehimcngljmnaaGreatDoor

/- What number.Parse decides, against decF. -/
import Derived.Test.YtgehimcngljmnaaGreatDoorCX
import Derived.Test.YtgehimcngljmnaaGreatDoorNL
import Derived.Test.YtgehimcngljmnaaGreatDoorNR
namespace Go.Proofs.YtgehimcngljmnaaGreatDoor
open Go.RowKit Nmx
theorem indexByte_pt : ∀ l : List UInt8, (l.contains 46 = true → 0 ≤ Lib.indexByte l 46 ∧ l.take (Lib.indexByte l 46).toNat = decWh l ∧ l.drop ((Lib.indexByte l 46).toNat + 1) = (l.dropWhile (· != 46)).drop 1) ∧ (l.contains 46 = false → Lib.indexByte l 46 = -1) := by
  intro l
  induction l with
  | nil => exact ⟨fun h => by simp at h, fun _ => rfl⟩
  | cons b r ih =>
    obtain ⟨i1, i2⟩ := ih
    by_cases hb : b = 46
    · subst hb
      exact ⟨fun _ => ⟨by simp [Lib.indexByte], by simp [Lib.indexByte, decWh], by simp [Lib.indexByte]⟩, fun h => by simp at h⟩
    · have hb' : (b == (46 : UInt8)) = false := by simpa using hb
      have hbn : (b != (46 : UInt8)) = true := by simpa using hb
      have hc : (b :: r).contains 46 = r.contains 46 := by
        rw [List.contains_cons]
        rw [show ((46 : UInt8) == b) = false by rw [beq_eq_false_iff_ne]; exact fun e => hb e.symm]
        simp
      rw [hc]
      constructor
      · intro h
        obtain ⟨h0, h1, h2⟩ := i1 h
        have hi : Lib.indexByte (b :: r) 46 = Lib.indexByte r 46 + 1 := by
          have hne : (Lib.indexByte r 46 == -1) = false := by rw [beq_eq_false_iff_ne]; omega
          simp [Lib.indexByte, hb', hne]
        obtain ⟨n, hn⟩ := Int.eq_ofNat_of_zero_le h0
        rw [hi, hn]
        have e1 : ((n : Int) + 1).toNat = n + 1 := by omega
        rw [hn] at h1 h2
        rw [e1]
        simp only [Int.toNat_natCast] at h1 h2
        refine ⟨by omega, ?_, ?_⟩
        · rw [List.take_succ_cons, h1]; unfold decWh; rw [List.takeWhile_cons, hbn]; simp
        · rw [List.drop_succ_cons, h2, List.dropWhile_cons, hbn]; simp
      · intro h
        rw [Lib.indexByte, hb', i2 h]; rfl
theorem decWh_no {l : List UInt8} (h : l.contains 46 = false) : decWh l = l := (pt_no fun x hx => by
  rw [Bool.eq_false_iff] at h
  simp only [bne_iff_ne]
  rintro rfl
  exact h (by simpa using hx)).1
/-- the shelf's Cut at a point, in words of one's own -/
theorem cut_point (l : List UInt8) : Lib.cut l [46] = (decWh l, decPt l, l.contains 46) := by
  unfold Lib.cut
  rw [Lib.index_one]
  obtain ⟨h1, h2⟩ := indexByte_pt l
  by_cases hc : l.contains 46 = true
  · obtain ⟨a, b, c⟩ := h1 hc
    rw [if_pos a, b]
    unfold decPt
    rw [if_pos hc, hc]
    simp only [List.length_singleton, c]
  · have hf : l.contains 46 = false := by simpa using hc
    rw [h2 hf, hf, decWh_no hf]
    unfold decPt
    rw [hf]
    rfl
theorem body_pt (l : List UInt8) : decWh (body l) = body (decWh l) ∧ decPt (body l) = decPt l ∧ (body l).contains 46 = l.contains 46 ∧ sgB (decWh l) = sgB l := by
  match l with
  | [] => exact ⟨rfl, rfl, rfl, rfl⟩
  | b :: r =>
    by_cases hb : b = 45
    · subst hb
      refine ⟨?_, ?_, ?_, ?_⟩
      · simp [decWh, body, sgB]
      · simp [decPt, body, sgB]
      · simp [body, sgB]
      · simp [decWh, sgB]
    · have hs : sgB (b :: r) = false := by simp [sgB, hb]
      have hw : sgB (decWh (b :: r)) = false := by
        unfold decWh sgB
        rw [List.takeWhile_cons]
        split
        · simp [hb]
        · rfl
      have e1 : body (b :: r) = b :: r := by unfold body; rw [hs]; rfl
      have e2 : body (decWh (b :: r)) = decWh (b :: r) := by unfold body; rw [hw]; rfl
      rw [e1, e2]
      exact ⟨rfl, rfl, rfl, hw.trans hs.symm⟩
theorem trim_body (a : List UInt8) : Lib.trimPrefix a [45] = body a := by
  unfold Lib.trimPrefix Lib.hasPrefix body sgB
  match a with
  | [] => rfl
  | b :: r =>
    by_cases hb : b = 45
    · subst hb; simp
    · have : ((45 : UInt8) == b) = false := by rw [beq_eq_false_iff_ne]; exact fun e => hb e.symm
      simp [List.isPrefixOf, this, hb]
theorem rep_zero (k : Nat) : Lib.repeatL [48] k = List.replicate k 48 := by
  induction k with
  | zero => rfl
  | succ k ih => rw [Lib.repeatL, ih, List.replicate_succ]; rfl
theorem digs_head {l : List UInt8} (h : l = [] ∨ l.head? = some 45) : digs l = false := by
  rcases h with rfl | h
  · rfl
  · match l, h with
    | b :: r, h =>
      simp at h
      subst h
      simp [digs, isD]
theorem decF_eq (l : List UInt8) : decF l = if (l.contains 46 = true ∧ digs (decPt l) = false) ∨ digs (body (decWh l)) = false then none else some (redQ (sgB l) (dv (body (decWh l) ++ decPt l)) (10 ^ (decPt l).length)) := by
  obtain ⟨h1, h2, h3, -⟩ := body_pt l
  unfold decF
  rw [h1, h2, h3]
theorem dec_bad1 {l : List UInt8} (hc : l.contains 46 = true) (h : decPt l = [] ∨ (decPt l).head? = some 45) : decF l = none := by
  rw [decF_eq, if_pos (.inl ⟨hc, digs_head h⟩)]
theorem dec_bad2 {l : List UInt8} (h : body (decWh l) = [] ∨ (body (decWh l)).head? = some 45) : decF l = none := by
  rw [decF_eq, if_pos (.inr (digs_head h))]
theorem body_app {a p : List UInt8} (h : body a ≠ []) : body (a ++ p) = body a ++ p ∧ sgB (a ++ p) = sgB a := by
  match a with
  | [] => exact absurd rfl h
  | b :: r =>
    have hs : sgB (b :: r ++ p) = sgB (b :: r) := by simp [sgB]
    refine ⟨?_, hs⟩
    unfold body
    rw [hs]
    by_cases hb : sgB (b :: r) = true
    · rw [if_pos hb, if_pos hb]; rfl
    · rw [if_neg hb, if_neg hb]
theorem dec_int {l : List UInt8} (h1 : l.contains 46 = true → decPt l ≠ []) (h2 : body (decWh l) ≠ []) : decF l = (intF (decWh l ++ decPt l)).map fun n => Rat.divInt n ((10 ^ (decPt l).length : Nat) : Int) := by
  obtain ⟨e1, e2⟩ := body_app (p := decPt l) h2
  have e3 := (body_pt l).2.2.2
  rw [decF_eq]
  unfold intF
  rw [e1, e2, e3, List.all_append]
  by_cases ha : (body (decWh l)).all isD = true
  · have hd : digs (body (decWh l)) = true := by unfold digs; simp [ha, h2]
    by_cases hp : (decPt l).all isD = true
    · rw [if_neg, if_neg]
      · rfl
      · simp [ha, hp, h2]
      · rintro (⟨hc, hx⟩ | hx)
        · unfold digs at hx; simp [hp, h1 hc] at hx
        · rw [hd] at hx; exact Bool.noConfusion hx
    · have hpf : (decPt l).all isD = false := by simpa using hp
      have hc : l.contains 46 = true := by
        rw [← Bool.not_eq_false]
        intro hc
        apply hp
        unfold decPt
        rw [hc]
        rfl
      rw [if_pos (.inl ⟨hc, by unfold digs; rw [hpf]; rfl⟩), if_pos (.inr (by rw [hpf, Bool.and_false]))]
      rfl
  · have haf : (body (decWh l)).all isD = false := by simpa using ha
    rw [if_pos (.inr (by unfold digs; rw [haf]; rfl)), if_pos (.inr (by rw [haf]; rfl))]
    rfl
theorem pt_size (l : List UInt8) : (decWh l).length + (decPt l).length ≤ l.length := by
  by_cases hc : l.contains 46 = true
  · have h1 := congrArg List.length (List.takeWhile_append_dropWhile (p := fun x : UInt8 => x != 46) (l := l))
    rw [List.length_append] at h1
    unfold decPt decWh
    rw [if_pos hc, List.length_drop]
    omega
  · have hf : l.contains 46 = false := by simpa using hc
    rw [decWh_no hf]
    unfold decPt
    rw [hf]
    simp
theorem intF_ten (k : Nat) : intF (49 :: List.replicate k 48) = some ((10 ^ k : Nat) : Int) := by
  have h := tens k
  have hb : body (49 :: List.replicate k 48) = 49 :: List.replicate k 48 := by simp [body, sgB]
  have hs : sgB (49 :: List.replicate k 48) = false := by simp [sgB]
  unfold intF
  rw [hb, hs, if_neg, ← h, dv_decN]
  · rfl
  · rintro (h | h)
    · simp at h
    · rw [List.all_cons, Bool.and_eq_false_iff] at h
      rcases h with h | h
      · exact absurd h (by decide)
      · rw [Bool.eq_false_iff] at h
        exact h (by simp [isD])
end Go.Proofs.YtgehimcngljmnaaGreatDoor

/- Where the items of a text lie: in plain words. -/
import Derived.Test.YtmmohhaolgblkaaDoorAE
namespace Go.Proofs.YtmmohhaolgblkaaDoor
open Go.RowKit

/-- the item lies where its position says -/
def Where (s : ByteArray) (x : It) : Prop :=
  ∃ p : Nat, x.pos = p ∧ p < s.size ∧ (x.kind = 5 → ∀ h : p < s.size, s[p].toNat = 40) ∧ (x.kind = 4 → ∀ h : p < s.size, s[p].toNat = 34) ∧
    (x.kind ≠ 5 → x.kind ≠ 4 → 0 < x.text.size ∧ p + x.text.size ≤ s.size ∧ s.extract p (p + x.text.size) = x.text)
structure PosInv (s : ByteArray) (k : Nat) (its : List It) : Prop where
  lies : ∀ x ∈ its, Where s x
  below : ∀ x ∈ its, x.pos < k
  asc : ∀ (i : Nat) (x y : It), its[i]? = some x → its[i + 1]? = some y → x.pos < y.pos
theorem PosInv.mono {s : ByteArray} {k k' : Nat} {its : List It} (h : PosInv s k its) (hk : k ≤ k') : PosInv s k' its := ⟨h.lies, fun x hx => by have := h.below x hx; omega, h.asc⟩
theorem bumpAt_get (its : List It) (o : Option Nat) (i : Nat) (x : It) (h : (bumpAt its o)[i]? = some x) : ∃ y, its[i]? = some y ∧ x.pos = y.pos ∧ x.kind = y.kind ∧ x.text = y.text := by
  cases o with
  | none => exact ⟨x, h, rfl, rfl, rfl⟩
  | some j =>
    simp only [bumpAt] at h
    rw [List.getElem?_modify] at h
    cases e : its[i]? with
    | none => rw [e] at h; simp at h
    | some y =>
      rw [e] at h
      simp at h
      subst h
      refine ⟨y, rfl, ?_⟩
      split <;> exact ⟨rfl, rfl, rfl⟩
theorem PosInv.push {s : ByteArray} {p p' : Nat} {its : List It} (h : PosInv s p its) (o : Option Nat) (kind : Int) (text : ByteArray) (hp : p < p') (hw : Where s ⟨kind, text, 0, p⟩) : PosInv s p' (bumpAt its o ++ [⟨kind, text, 0, p⟩]) := by
  have hb : ∀ x ∈ bumpAt its o, Where s x ∧ x.pos < p := by
    intro x hx
    obtain ⟨i, hi⟩ := List.getElem?_of_mem hx
    obtain ⟨y, hy, e1, e2, e3⟩ := bumpAt_get its o i x hi
    have hm := List.mem_of_getElem? hy
    refine ⟨?_, by rw [e1]; exact h.below y hm⟩
    have := h.lies y hm
    unfold Where at this ⊢
    rw [e1, e2, e3]; exact this
  refine ⟨fun x hx => ?_, fun x hx => ?_, fun i x y hx hy => ?_⟩
  · rw [List.mem_append, List.mem_singleton] at hx
    rcases hx with hx | rfl
    · exact (hb x hx).1
    · exact hw
  · rw [List.mem_append, List.mem_singleton] at hx
    rcases hx with hx | rfl
    · have := (hb x hx).2; omega
    · show (p : Int) < p'; omega
  · have hl := bump_len its o
    by_cases h1 : i + 1 < (bumpAt its o).length
    · rw [List.getElem?_append_left (by omega)] at hx
      rw [List.getElem?_append_left h1] at hy
      obtain ⟨x', hx', e1, _⟩ := bumpAt_get its o i x hx
      obtain ⟨y', hy', e2, _⟩ := bumpAt_get its o (i + 1) y hy
      rw [e1, e2]; exact h.asc i x' y' hx' hy'
    · rw [List.getElem?_append_right (by omega)] at hy
      have hi : i + 1 - (bumpAt its o).length = 0 := by
        rcases Nat.eq_zero_or_pos (i + 1 - (bumpAt its o).length) with h | h
        · exact h
        · rw [List.getElem?_eq_none (by simp; omega)] at hy; cases hy
      rw [hi] at hy
      simp at hy
      subst hy
      rw [List.getElem?_append_left (by omega)] at hx
      exact (hb x (List.mem_of_getElem? hx)).2
theorem wkind_le (l : List UInt8) : Sx.wkind l ≠ 5 ∧ Sx.wkind l ≠ 4 := by
  unfold Sx.wkind
  repeat' split
  all_goals decide

theorem pos_item (s : ByteArray) (p : Nat) (its : List It) (op : List Nat) (hp : p < s.size) (hI : PosInv s p its) (x : PSt) (h : itemF s ⟨p, its, op⟩ = .ok x) : PosInv s x.pos x.its := by
  rw [itemF_eq s p its op hp] at h
  split at h
  · split at h
    · cases h
    · cases h; exact hI.mono (by simp)
  · split at h
    · rename_i hc
      cases e : addTo ⟨p, its, op⟩ 5 ⟨#[]⟩ p (p + 1) with
      | error z => rw [e] at h; cases h
      | ok y =>
        rw [e] at h; cases h
        obtain ⟨h1, h2, h3⟩ := addTo_ok e
        show PosInv s y.pos y.its
        rw [h1, h2]
        exact hI.push _ 5 ⟨#[]⟩ (by omega) ⟨p, rfl, hp, fun _ _ => hc, fun h => by simp at h, fun h => absurd rfl h⟩
    · split at h
      · rename_i hc
        cases e : Sx.textN (s.data.toList.drop (p + 1)) with
        | none => rw [e] at h; cases h
        | some t =>
          rw [e] at h
          obtain ⟨h1, h2, h3⟩ := addTo_ok h
          rw [h1, h2]
          exact hI.push _ 4 _ (by omega) ⟨p, rfl, hp, fun h => by simp at h, fun _ _ => hc, fun _ h => absurd rfl h⟩
      · split at h
        · cases h
        · rename_i hk
          obtain ⟨h1, h2, h3⟩ := addTo_ok h
          have hw := wordN_pos s p hk
          have hl := wordN_le s p
          have hs : (s.extract p (p + wordN s p)).size = wordN s p := by rw [ByteArray.size_extract]; omega
          rw [h1, h2]
          refine hI.push _ _ _ (by omega) ⟨p, rfl, hp, fun h => absurd h (wkind_le _).1, fun h => absurd h (wkind_le _).2, fun _ _ => ?_⟩
          simp only
          rw [hs]
          exact ⟨hw, by omega, rfl⟩
theorem pos_loop (s : ByteArray) : ∀ (n : Nat) (st x : PSt), PosInv s st.pos st.its → st.pos ≤ s.size → parseLoop s n st = .ok x → ∃ k, PosInv s k x.its := by
  intro n
  induction n with
  | zero => intro st x hI _ h; cases h; exact ⟨_, hI⟩
  | succ n ih =>
    intro st x hI hp h
    obtain ⟨p, its, op⟩ := st
    simp only [parseLoop] at h
    split at h
    · rename_i hlt
      cases e : itemF s ⟨p, its, op⟩ with
      | error z => rw [e] at h; cases h
      | ok y =>
        rw [e] at h
        have h1 := pos_item s p its op hlt hI y e
        have h2 := item_pos s p its op hlt y e
        exact ih ⟨skipTo s y.pos, y.its, y.op⟩ x (h1.mono (skipTo_ge s y.pos)) (skipTo_le s y.pos h2.2) h
    · cases h; exact ⟨_, hI⟩
theorem parseT_pos (s : ByteArray) (h : (parseT s).2.2 = 0) : ∃ k, PosInv s k (parseT s).1 := by
  unfold parseT at h ⊢
  split
  · rename_i hb; rw [if_pos hb] at h; simp at h
  · rename_i hb
    rw [if_neg hb] at h
    unfold parseF at h ⊢
    split
    · exact ⟨0, by simp, by simp, by simp⟩
    · rename_i st hst
      obtain ⟨k, hk⟩ := pos_loop s _ _ st ⟨by simp, by simp, by simp⟩ (skipTo_le s 0 (Nat.zero_le _)) hst
      split
      · exact ⟨k, hk⟩
      · exact ⟨0, by simp, by simp, by simp⟩
end Go.Proofs.YtmmohhaolgblkaaDoor

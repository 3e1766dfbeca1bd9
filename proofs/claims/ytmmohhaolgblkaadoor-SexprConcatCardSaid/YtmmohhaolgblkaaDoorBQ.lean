/- The statement on two texts: its tail. -/
import Derived.Test.YtmmohhaolgblkaaDoorBO
import Derived.Test.YtmmohhaolgblkaaDoorBP
namespace Go.Proofs.YtmmohhaolgblkaaDoor
open Go.RowKit

/-- a text that is parsed, and its items in the memory -/
structure Rdy (w : World) (s : ByteArray) (v : Value) (a : List It) : Prop where
  par : parseT s = (a, 0, 0)
  short : s.size ≤ 10000
  at0 : ∃ ao g cap, v = .slice ao a.length cap ∧ Lies w ao g a.length a ∧ (ao = none → cap = 0)
theorem Lies.below {w w' : World} {ao : Option Addr} {g n : Nat} {l : List It} (h : Lies w ao g n l) (hb : Below w.heap.size w w') : Lies w' ao g n l :=
  ⟨h.1, h.2.1, Nat.lt_of_lt_of_le h.2.2.1 hb.size, fun i x hx j hj => (hb.cell (p := ⟨g, i * 4 + j, none⟩) h.2.2.1).trans (h.2.2.2 i x hx j hj)⟩
theorem Rdy.below {w w' : World} {s : ByteArray} {v : Value} {a : List It} (h : Rdy w s v a) (hb : Below w.heap.size w w') : Rdy w' s v a := by
  obtain ⟨h1, h2, ao, g, cap, e, hl, hc⟩ := h
  exact ⟨h1, h2, ao, g, cap, e, hl.below hb, hc⟩
theorem lies_none {w : World} {b n : Nat} {v : Value} {l : List It} (h : w.ownsRow b 31 4 v n (flat l)) (h0 : 0 < w.heap.size) : ∃ ao g cap, v = .slice ao n cap ∧ Lies w ao g n l ∧ (ao = none → cap = 0) := by
  obtain ⟨ao, g, cap, e, hl⟩ := lies_of h h0
  refine ⟨ao, g, cap, e, hl, fun ha => ?_⟩
  obtain ⟨_, h1 | ⟨g', cap', cur, hv, _⟩⟩ := h
  · rw [e] at h1; cases h1.1; rfl
  · rw [e] at hv; subst ha; cases hv
theorem Rdy.of {w : World} {s : ByteArray} {v : Value} {a : List It} {b : Nat} (hp : parseT s = (a, 0, 0)) (hs : s.size ≤ 10000) (h : w.ownsRow b 31 4 v a.length (flat a)) (h0 : 0 < w.heap.size) : Rdy w s v a := ⟨hp, hs, lies_none h h0⟩
theorem loop_err (s : ByteArray) : ∀ (n : Nat) (st : PSt), st.pos ≤ s.size → ∀ a k, parseLoop s n st = .error (a, k) → k ≠ 0 := by
  intro n
  induction n with
  | zero => intro st _ a k h; cases h
  | succ n ih =>
    intro st hp a k h
    obtain ⟨p, its, op⟩ := st
    simp only [parseLoop] at h
    split at h
    · rename_i hlt
      cases e2 : itemF s ⟨p, its, op⟩ with
      | error z =>
        rw [e2] at h
        cases h
        exact item_err s p its op hlt a k e2
      | ok y =>
        rw [e2] at h
        exact ih ⟨skipTo s y.pos, y.its, y.op⟩ (skipTo_le s y.pos (item_pos s p its op hlt y e2).2) a k h
    · cases h
theorem zero_at {s : ByteArray} {a : List It} {i : Nat} (h : parseT s = (a, i, 0)) : i = 0 := by
  unfold parseT at h
  split at h
  · simp at h
  · unfold parseF at h
    split at h
    · rename_i a' k' e
      simp only [Prod.mk.injEq] at h
      obtain ⟨_, _, h3⟩ := h
      subst h3
      exact absurd rfl (loop_err s _ _ (skipTo_le s 0 (Nat.zero_le _)) _ _ e)
    · split at h
      · simp only [Prod.mk.injEq] at h; exact h.2.1.symm
      · simp at h
theorem cat_of (s t : ByteArray) : Cat s t (s ++ ⟨#[10]⟩ ++ t) := ⟨by
  rw [ByteArray.data_append, ByteArray.data_append, Array.toList_append, Array.toList_append]
  simp⟩
theorem moved_get (o : Nat) (a b : List It) (i : Nat) (x y : It) (hx : (a ++ moved o b)[i]? = some x) (hy : (a ++ b)[i]? = some y) : Eqv false x y := by
  by_cases h : i < a.length
  · rw [List.getElem?_append_left h] at hx hy
    rw [hx] at hy; cases hy
    exact ⟨rfl, rfl, rfl, fun h => by cases h⟩
  · rw [List.getElem?_append_right (by omega)] at hx hy
    unfold moved at hx
    rw [List.getElem?_map, hy] at hx
    cases hx
    exact ⟨rfl, rfl, rfl, fun h => by cases h⟩
end Go.Proofs.YtmmohhaolgblkaaDoor

/- Every item is a root or an element of exactly one item: in plain words. -/
import Derived.Test.YtmmohhaolgblkaaDoorAK
namespace Go.Proofs.YtmmohhaolgblkaaDoor
open Go.RowKit

def trailF : Nat → List Nat → Nat → Nat → List Nat
  | 0, _, _, _ => []
  | f + 1, E, i, up1 => if i < up1 then i :: trailF f E (E.getD i 0) up1 else []
/-- the indices that follow one another from i on, below 'up1' -/
def trail (E : List Nat) (i up1 : Nat) : List Nat := trailF (up1 - i) E i up1
theorem trail_stop {E : List Nat} {i up1 : Nat} (h : ¬ i < up1) : trail E i up1 = [] := by
  unfold trail; rw [show up1 - i = 0 by omega]; rfl
theorem trailF_fuel {E : List Nat} {up1 : Nat} (hE : ∀ j, j < up1 → j < E.getD j 0) : ∀ (f f' i : Nat), up1 - i ≤ f → up1 - i ≤ f' → trailF f E i up1 = trailF f' E i up1 := by
  intro f
  induction f with
  | zero => intro f' i h _; cases f' with
    | zero => rfl
    | succ f' => simp only [trailF]; rw [if_neg (by omega)]
  | succ f ih =>
    intro f' i h h'
    cases f' with
    | zero => simp only [trailF]; rw [if_neg (by omega)]
    | succ f' =>
      simp only [trailF]
      split
      · rename_i hlt
        have := hE i hlt
        rw [ih f' _ (by omega) (by omega)]
      · rfl
theorem trail_step {E : List Nat} {i up1 e : Nat} (hE : ∀ j, j < up1 → j < E.getD j 0) (h : i < up1) (he : E.getD i 0 = e) : trail E i up1 = i :: trail E e up1 := by
  unfold trail
  obtain ⟨f, hf⟩ : ∃ f, up1 - i = f + 1 := ⟨up1 - i - 1, by omega⟩
  have := hE i h
  rw [hf]
  simp only [trailF]
  rw [if_pos h, he, trailF_fuel hE f (up1 - e) e (by omega) (by omega)]
theorem trail_mem {E : List Nat} {up1 : Nat} (hE : ∀ j, j < up1 → j < E.getD j 0) : ∀ (f i x : Nat), up1 - i ≤ f → x ∈ trail E i up1 → i ≤ x ∧ x < up1 := by
  intro f
  induction f with
  | zero => intro i x h hx; rw [trail_stop (by omega)] at hx; cases hx
  | succ f ih =>
    intro i x h hx
    by_cases hlt : i < up1
    · rw [trail_step hE hlt rfl, List.mem_cons] at hx
      have := hE i hlt
      rcases hx with rfl | hx
      · exact ⟨Nat.le_refl _, hlt⟩
      · have := ih _ x (by omega) hx; omega
    · rw [trail_stop hlt] at hx; cases hx

theorem Lay.trail {d a c : Nat} {its : List It} {El : List Nat} (h : Lay d a its El c) : ∀ (E post : List Nat) (n : Nat), (∀ j, j < n → j < E.getD j 0) → a + its.length ≤ n → E.drop a = El ++ post →
    (Go.Proofs.YtmmohhaolgblkaaDoor.trail E a (a + its.length)).length = c ∧
    (∀ x, List.count x (Go.Proofs.YtmmohhaolgblkaaDoor.trail E a (a + its.length)) + List.count x ((List.range' a its.length).flatMap fun i => Go.Proofs.YtmmohhaolgblkaaDoor.trail E (i + 1) (E.getD i 0)) = List.count x (List.range' a its.length)) ∧
    (∀ t x, its[t]? = some x → ((Go.Proofs.YtmmohhaolgblkaaDoor.trail E (a + t + 1) (E.getD (a + t) 0)).length : Int) = x.kids) := by
  induction h with
  | nil d a =>
    intro E post n hE hn hA
    rw [List.length_nil, Nat.add_zero, trail_stop (by omega)]
    exact ⟨rfl, fun x => rfl, fun t x hx => by simp at hx⟩
  | @leaf d a x r Er c hk h ih =>
    intro E post n hE hn hA
    simp only [List.length_cons] at hn ⊢
    obtain ⟨h1, h2⟩ := drop_head hA
    obtain ⟨i1, i2, i3⟩ := ih E post n hE (by omega) h2
    have hc : Go.Proofs.YtmmohhaolgblkaaDoor.trail E a (a + (r.length + 1)) = a :: Go.Proofs.YtmmohhaolgblkaaDoor.trail E (a + 1) (a + 1 + r.length) := by
      rw [trail_step (fun j hj => hE j (by omega)) (by omega) h1]; congr 2; omega
    have he : Go.Proofs.YtmmohhaolgblkaaDoor.trail E (a + 1) (E.getD a 0) = [] := by rw [h1]; exact trail_stop (by omega)
    refine ⟨by rw [hc, List.length_cons, i1], fun y => ?_, fun t y hy => ?_⟩
    · have := i2 y
      rw [hc, List.range'_succ, List.flatMap_cons, he, List.nil_append, List.count_cons, List.count_cons]
      omega
    · cases t with
      | zero =>
        simp at hy; subst hy
        show ((Go.Proofs.YtmmohhaolgblkaaDoor.trail E (a + 1) (E.getD a 0)).length : Int) = _; rw [he, hk]; rfl
      | succ t =>
        have := i3 t y (by simpa using hy)
        rw [show a + (t + 1) = a + 1 + t by omega]
        exact this
  | @list d a x sub r Es Er k c hk hs h ih1 ih2 =>
    intro E post n hE hn hA
    simp only [List.length_cons, List.length_append] at hn ⊢
    obtain ⟨h1, h2⟩ := drop_head hA
    have hl := hs.len
    obtain ⟨j1, j2, j3⟩ := ih1 E (Er ++ post) n hE (by omega) (h2.trans (List.append_assoc Es Er post))
    obtain ⟨i1, i2, i3⟩ := ih2 E post n hE (by omega) (by
      have := congrArg (List.drop sub.length) (h2.trans (List.append_assoc Es Er post))
      rw [List.drop_drop, ← hl, List.drop_left] at this
      rw [← hl]; exact this)
    have hc : Go.Proofs.YtmmohhaolgblkaaDoor.trail E a (a + (sub.length + r.length + 1)) = a :: Go.Proofs.YtmmohhaolgblkaaDoor.trail E (a + 1 + sub.length) (a + 1 + sub.length + r.length) := by
      rw [trail_step (fun j hj => hE j (by omega)) (by omega) h1]; congr 2; omega
    refine ⟨by rw [hc, List.length_cons, i1], fun y => ?_, fun t y hy => ?_⟩
    · have e1 := i2 y
      have e2 := j2 y
      have hr : List.range' a (sub.length + r.length + 1) = a :: (List.range' (a + 1) sub.length ++ List.range' (a + 1 + sub.length) r.length) := by
        rw [List.range'_succ, List.range'_append_1]
      rw [hc, hr, List.flatMap_cons, List.flatMap_append, h1]
      simp only [List.count_cons, List.count_append]
      omega
    · cases t with
      | zero =>
        simp at hy; subst hy
        show ((Go.Proofs.YtmmohhaolgblkaaDoor.trail E (a + 1) (E.getD a 0)).length : Int) = _; rw [h1, j1, hk]
      | succ t =>
        simp only [List.getElem?_cons_succ] at hy
        by_cases ht : t < sub.length
        · have := j3 t y (by rwa [List.getElem?_append_left ht] at hy)
          rw [show a + (t + 1) = a + 1 + t by omega]
          exact this
        · have := i3 (t - sub.length) y (by rwa [List.getElem?_append_right (by omega)] at hy)
          rw [show a + (t + 1) = a + 1 + sub.length + (t - sub.length) by omega]
          exact this
end Go.Proofs.YtmmohhaolgblkaaDoor

/- Constraints that differ by a positive factor: the comparisons' normal forms are the same. -/
import Derived.Test.YteoklapcifonaaaGreatDoorWMC
import Derived.Test.YteoklapcifonaaaGreatDoorWPE
namespace Go.Proofs.YteoklapcifonaaaGreatDoor
open Go.RowKit Nmx

theorem scl_cof (f : Rat) (l : List (List UInt8 × Rat)) (n : List UInt8) : cof (scl f l) n = f * cof l n := by
  induction l with
  | nil => show (0 : Rat) = f * 0; rw [Rat.mul_zero]
  | cons x l ih =>
    show cof ((x.1, f * x.2) :: scl f l) n = _;rw [cof_cons, cof_cons]
    split
    · rfl
    · exact ih
theorem num_lt (q : Rat) : (q.num < 0 ↔ q < 0) := by
  have := @Rat.num_nonneg q
  constructor
  · intro h;exact Rat.not_le.1 fun h2 => by have := this.2 h2; omega
  · intro h;refine Int.not_le.1 fun h2 => ?_
    exact Rat.not_le.2 h (this.1 h2)
theorem num_gt (q : Rat) : (0 < q.num ↔ 0 < q) := by
  have h1 := @Rat.num_nonneg q;have h2 := @Rat.num_eq_zero q
  constructor
  · intro h;have h3 := h1.1 (by omega);refine Rat.not_le.1 fun h4 => ?_
    have h5 : q = 0 := Rat.le_antisymm h4 h3;have := h2.2 h5
    omega
  · intro h;have h3 := h1.2 (Rat.le_of_lt h);have h4 : q.num ≠ 0 := fun e => by rw [h2.1 e] at h; exact absurd h (by decide)
    omega
end Go.Proofs.YteoklapcifonaaaGreatDoor
/- What the normal form of a comparison means, and that it is its own normal form. -/
namespace Go.Proofs.YteoklapcifonaaaGreatDoor
open Go.RowKit Nmx

theorem evS_add : ∀ (cs : List (List UInt8 × Rat)) (p : Rat) (f : List UInt8 → Rat), evS p cs f = p + evS 0 cs f
  | [], p, f => by show p = p + 0; rw [Rat.add_zero]
  | x :: l, p, f => by
    have h1 := evS_add l (p + x.2 * f x.1) f;have h2 := evS_add l (0 + x.2 * f x.1) f;show evS (p + x.2 * f x.1) l f = p + evS (0 + x.2 * f x.1) l f;rw [h1, h2, Rat.zero_add, Rat.add_assoc]
theorem evS_cons (x : List UInt8 × Rat) (l : List (List UInt8 × Rat)) (f : List UInt8 → Rat) : evS 0 (x :: l) f = x.2 * f x.1 + evS 0 l f := by
  show evS (0 + x.2 * f x.1) l f = _;rw [evS_add, Rat.zero_add]
theorem evS_scl (k : Rat) (f : List UInt8 → Rat) : ∀ l : List (List UInt8 × Rat), evS 0 (scl k l) f = k * evS 0 l f
  | [] => by show (0 : Rat) = k * 0; rw [Rat.mul_zero]
  | x :: l => by
    show evS 0 ((x.1, k * x.2) :: scl k l) f = _;rw [evS_cons, evS_cons, evS_scl k f l, Rat.mul_add, Rat.mul_assoc]
theorem scl_can' {f : Rat} (hf : f ≠ 0) {l : List (List UInt8 × Rat)} (h : Can ltB l) : Can ltB (scl f l) := by
  induction l with
  | nil => trivial
  | cons x l ih =>
    obtain ⟨m, p⟩ := x;refine ⟨fun e => ?_, fun y hy => ?_, ih h.2.2⟩
    · rcases Rat.mul_eq_zero.1 e with h1 | h1
      · exact hf h1
      · exact h.1 h1
    · obtain ⟨z, hz, rfl⟩ := List.mem_map.1 hy;exact h.2.1 z hz
theorem cmpF_le (x : Rat) : cmpF 1 x = decide (x ≤ 0) := by
  unfold cmpF;rw [if_pos rfl];refine decide_eq_decide.2 ?_;have h1 := num_gt x;unfold sgnI
  constructor
  · intro h;refine Rat.not_lt.1 fun h2 => ?_
    have h3 := h1.2 h2;rw [if_neg (by omega), if_pos h3] at h
    omega
  · intro h;have h3 : ¬ 0 < x.num := fun h2 => Rat.not_le.2 (h1.1 h2) h
    split
    · omega
    · exact Int.le_refl 0
theorem cmpF_lt (x : Rat) : cmpF 2 x = decide (x < 0) := by
  unfold cmpF;rw [if_neg (by omega), if_pos rfl];exact decide_eq_decide.2 (by rw [sgnI_neg, num_lt])
theorem cmpF_eq (x : Rat) : cmpF 3 x = decide (x = 0) := by
  unfold cmpF;rw [if_neg (by omega), if_neg (by omega)];exact decide_eq_decide.2 Rat.num_eq_zero
/-- the coefficients of the normal form -/
theorem nf_scl {k : Rat} (hk : k ≠ 0) {cs rs : List (List UInt8 × Rat)} (hc : Can ltB cs) (hr : Can ltB rs) (hf : ∀ n, cof rs n = k * cof cs n) : rs = scl k cs :=
  can_ext ord_ltB _ _ hr (scl_can' hk hc) fun n => by rw [hf n, scl_cof]
end Go.Proofs.YteoklapcifonaaaGreatDoor

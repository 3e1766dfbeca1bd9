/- Constraints that differ by a positive factor: the comparisons' normal forms are the same. -/
import Derived.Test.YtgfoljpjdmeooaaGreatDoorWMC
namespace Go.Proofs.YtgfoljpjdmeooaaGreatDoor
open Go.RowKit Nmx

theorem scl_cof (f : Rat) (l : List (List UInt8 × Rat)) (n : List UInt8) : cof (scl f l) n = f * cof l n := by
  induction l with
  | nil => show (0 : Rat) = f * 0; rw [Rat.mul_zero]
  | cons x l ih =>
    show cof ((x.1, f * x.2) :: scl f l) n = _;rw [cof_cons, cof_cons]
    split
    · rfl
    · exact ih
theorem rat_pos_ne {f : Rat} (hf : 0 < f) : f ≠ 0 := fun e => by rw [e] at hf; exact absurd hf (by decide)
theorem num_lt (q : Rat) : (q.num < 0 ↔ q < 0) := by
  have := @Rat.num_nonneg q
  constructor
  · intro h;exact Rat.not_le.1 fun h2 => by have := this.2 h2; omega
  · intro h;refine Int.not_le.1 fun h2 => ?_
    exact Rat.not_le.2 h (this.1 h2)
theorem num_gt (q : Rat) : (0 < q.num ↔ 0 < q) := by
  have h1 := @Rat.num_nonneg q;have h2 := @Rat.num_eq_zero q
  constructor
  · intro h;have h3 := h1.1 (by omega);refine Rat.not_le.1 fun h4 => ?_
    have h5 : q = 0 := Rat.le_antisymm h4 h3;have := h2.2 h5
    omega
  · intro h;have h3 := h1.2 (Rat.le_of_lt h);have h4 : q.num ≠ 0 := fun e => by rw [h2.1 e] at h; exact absurd h (by decide)
    omega
theorem scl_pos {f q : Rat} (hf : 0 < f) : (0 < f * q ↔ 0 < q) := by
  constructor
  · intro h;refine Rat.not_le.1 fun h2 => Rat.not_le.2 h ?_
    have := Rat.mul_le_mul_of_nonneg_left h2 (Rat.le_of_lt hf);rwa [Rat.mul_zero] at this
  · exact fun h => Rat.mul_pos hf h
theorem scl_neg {f q : Rat} (hf : 0 < f) : (f * q < 0 ↔ q < 0) := by
  have h := @scl_pos f (-q) hf;have e : f * -q = -(f * q) := by grind
  rw [e] at h;have l1 : ∀ a : Rat, (0 < -a ↔ a < 0) := fun a => by constructor <;> intro h <;> grind
  rw [l1, l1] at h;exact h
theorem scl_num {f q : Rat} (hf : 0 < f) : sgnI (f * q).num = sgnI q.num := by
  have h1 : (f * q).num < 0 ↔ q.num < 0 := by rw [num_lt, num_lt]; exact scl_neg hf
  have h2 : 0 < (f * q).num ↔ 0 < q.num := by rw [num_gt, num_gt]; exact scl_pos hf
  unfold sgnI
  by_cases a : q.num < 0
  · rw [if_pos a, if_pos (h1.2 a)]
  · rw [if_neg a, if_neg (fun h => a (h1.1 h))]
    by_cases b : 0 < q.num
    · rw [if_pos b, if_pos (h2.2 b)]
    · rw [if_neg b, if_neg (fun h => b (h2.1 h))]
theorem scl_zero {f q : Rat} (hf : 0 < f) : ((f * q).num = 0 ↔ q.num = 0) := by
  rw [Rat.num_eq_zero, Rat.num_eq_zero]
  constructor
  · intro h;rcases Rat.mul_eq_zero.1 h with h | h
    · exact absurd h (rat_pos_ne hf)
    · exact h
  · intro h; rw [h, Rat.mul_zero]
theorem cmpF_scl {f q : Rat} (hf : 0 < f) (r : Int) : cmpF r (f * q) = cmpF r q := by
  unfold cmpF;rw [scl_num hf]
  split
  · rfl
  · split
    · rfl
    · exact decide_eq_decide.2 (scl_zero hf)
end Go.Proofs.YtgfoljpjdmeooaaGreatDoor
/- The normal form of a divisibility: what it is; it is the same for constraints that differ by a positive factor. -/
namespace Go.Proofs.YtgfoljpjdmeooaaGreatDoor
open Go.RowKit Nmx

/-- a number times the common denominator, modulo the modulus -/
def rsD (F : Nat) (zM : Int) (q : Rat) : Int := (q * ((F : Nat) : Rat)).num % zM
/-- the greatest common divisor of the modulus and the coefficients -/
def gcdL (F : Nat) (zM : Int) : Nat → List (List UInt8 × Rat) → Nat
  | g, [] => g
  | g, x :: l => gcdL F zM (Nat.gcd g (rsD F zM x.2).natAbs) l
/-- the normal form of a divisibility: relation, constant, coefficients, modulus -/
def DF (r m : Int) (p : Rat) (l : List (List UInt8 × Rat)) (r' : Int) (c' : Rat) (f' : List UInt8 → Rat) (tm' : ByteArray) : Prop :=
  ∃ (F : Nat) (zM g : Int), F = denL p.den l ∧ zM = m * F ∧ g = gcdL F zM zM.natAbs l ∧
    ((rsD F zM p % g ≠ 0 ∧ r' = (if r = 4 then 2 else 1) ∧ c' = 0 ∧ (f' = fun _ => 0) ∧ tm' = ⟨#[]⟩) ∨
     (rsD F zM p % g = 0 ∧ zM / g = 1 ∧ r' = (if r = 4 then 1 else 2) ∧ c' = 0 ∧ (f' = fun _ => 0) ∧ tm' = ⟨#[]⟩) ∨
     (rsD F zM p % g = 0 ∧ zM / g ≠ 1 ∧ r' = r ∧ c' = ((rsD F zM p / g : Int) : Rat) ∧ (f' = fun n => ((rsD F zM (cof l n) / g : Int) : Rat)) ∧ tm' = TX ((zM / g : Int) : Rat)))
theorem int_of_dvd {q : Rat} {F : Nat} (h : q.den ∣ F) : (((q * ((F : Nat) : Rat)).num : Int) : Rat) = q * F := by
  obtain ⟨k, rfl⟩ := h
  have e : q * (((q.den * k : Nat) : Nat) : Rat) = ((q.num * k : Int) : Rat) := by
    have h1 := num_den q
    have h2 : ((q.den : Nat) : Rat) ≠ 0 := by
      intro e;have : ((q.den : Nat) : Rat) = ((0 : Nat) : Rat) := e;have := Rat.natCast_inj.1 this;exact q.den_nz this
    rw [Rat.natCast_mul, Rat.intCast_mul, ← Rat.mul_assoc]
    congr 1
    conv => lhs; lhs; rw [← h1]
    exact Rat.div_mul_cancel h2
  rw [e, Rat.num_intCast]
end Go.Proofs.YtgfoljpjdmeooaaGreatDoor

/- Constraints that differ by a positive factor: the comparisons' normal forms are the same. -/
import Derived.Test.YteoklapcifonaaaGreatDoorWMC
import Derived.Test.YteoklapcifonaaaGreatDoorWPE
namespace Go.Proofs.YteoklapcifonaaaGreatDoor
open Go.RowKit Nmx

end Go.Proofs.YteoklapcifonaaaGreatDoor
/- What the normal form of a comparison means, and that it is its own normal form. -/
namespace Go.Proofs.YteoklapcifonaaaGreatDoor
open Go.RowKit Nmx

theorem evS_add : ∀ (cs : List (List UInt8 × Rat)) (p : Rat) (f : List UInt8 → Rat), evS p cs f = p + evS 0 cs f
  | [], p, f => by show p = p + 0; rw [Rat.add_zero]
  | x :: l, p, f => by
    have h1 := evS_add l (p + x.2 * f x.1) f;have h2 := evS_add l (0 + x.2 * f x.1) f;show evS (p + x.2 * f x.1) l f = p + evS (0 + x.2 * f x.1) l f;rw [h1, h2, Rat.zero_add, Rat.add_assoc]
theorem evS_cons (x : List UInt8 × Rat) (l : List (List UInt8 × Rat)) (f : List UInt8 → Rat) : evS 0 (x :: l) f = x.2 * f x.1 + evS 0 l f := by
  show evS (0 + x.2 * f x.1) l f = _;rw [evS_add, Rat.zero_add]
end Go.Proofs.YteoklapcifonaaaGreatDoor

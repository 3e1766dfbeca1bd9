/- Environments are drawn: (*Choices).Num, LinearEnv. -/
import Derived.Test.YteoklapcifonaaaGreatDoorVMC
import Derived.Test.YteoklapcifonaaaGreatDoorVLU
import Derived.Maps.OwnOps
namespace Go.Proofs.YteoklapcifonaaaGreatDoor
open Go.RowKit Nmx
/-- what an operation of the region may do: the choices go on -/
def ChR (C : Nat) (ao : Option Addr) (n cap : Nat) (w w' : World) : Prop := w.grownBy w' (some C) ∧ (Ch C ao n cap w → Ch C ao n cap w')
end Go.Proofs.YteoklapcifonaaaGreatDoor
/- Environments are valid: value.Valid at numbers, validEnv. -/
namespace Go.Proofs.YteoklapcifonaaaGreatDoor
open Go.RowKit Nmx
end Go.Proofs.YteoklapcifonaaaGreatDoor
/- A map with strings for keys, as a list of names and values: laws for the walk. -/
namespace Go.Proofs.YteoklapcifonaaaGreatDoor
open Go.RowKit Nmx
open Go.MapKept
end Go.Proofs.YteoklapcifonaaaGreatDoor
/- The value of an expression in an environment: eval. -/
namespace Go.Proofs.YteoklapcifonaaaGreatDoor
open Go.RowKit Nmx
end Go.Proofs.YteoklapcifonaaaGreatDoor

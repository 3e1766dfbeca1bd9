/- The reference's parse. -/
import Derived.Test.YtaffbaacilglgaaGreatDoorKRB
import Derived.Test.YtaffbaacilglgaaGreatDoorKNB
import Derived.Deep.CutBlock
namespace Go.Proofs.YtaffbaacilglgaaGreatDoor
open Go.RowKit Nmx
open Rf

end Go.Proofs.YtaffbaacilglgaaGreatDoor

/- The reference's parse at what is no number; at every text. -/
import Derived.Test.YtaffbaacilglgaaGreatDoorKRC
namespace Go.Proofs.YtaffbaacilglgaaGreatDoor
open Go.RowKit Nmx
open Rf

end Go.Proofs.YtaffbaacilglgaaGreatDoor

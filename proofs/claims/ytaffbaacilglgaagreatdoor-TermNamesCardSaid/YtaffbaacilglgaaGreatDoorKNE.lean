/- Int.Mul of package exact. -/
import Derived.Test.YtaffbaacilglgaaGreatDoorKNC
import Derived.Test.YtaffbaacilglgaaGreatDoorKShelf
namespace Go.Proofs.YtaffbaacilglgaaGreatDoor
open Go.RowKit Nmx

end Go.Proofs.YtaffbaacilglgaaGreatDoor

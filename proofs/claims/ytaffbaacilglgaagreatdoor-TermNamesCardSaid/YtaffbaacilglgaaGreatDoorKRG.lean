/- The reference's parse at every text. -/
import Derived.Test.YtaffbaacilglgaaGreatDoorKRD
namespace Go.Proofs.YtaffbaacilglgaaGreatDoor
open Go.RowKit Nmx
open Rf

end Go.Proofs.YtaffbaacilglgaaGreatDoor
namespace Go.Proofs.YtaffbaacilglgaaGreatDoor
open Go.RowKit Nmx
open Rf

end Go.Proofs.YtaffbaacilglgaaGreatDoor
namespace Go.Proofs.YtaffbaacilglgaaGreatDoor
open Go.RowKit Nmx
open Rf

end Go.Proofs.YtaffbaacilglgaaGreatDoor
/- The reference's Mul, Div. -/
namespace Go.Proofs.YtaffbaacilglgaaGreatDoor
open Go.RowKit Nmx
open Rf

end Go.Proofs.YtaffbaacilglgaaGreatDoor
namespace Go.Proofs.YtaffbaacilglgaaGreatDoor
open Go.RowKit Nmx
open Rf

end Go.Proofs.YtaffbaacilglgaaGreatDoor
/- The reference's functions at texts of numbers; Floor, Sub. -/
namespace Go.Proofs.YtaffbaacilglgaaGreatDoor
open Go.RowKit Nmx
open Rf

/-- the text of a number -/
def TX (q : Rat) : ByteArray := ⟨(textQ q).toArray⟩
theorem tx_size (q : Rat) : (TX q).size = (textQ q).length := sz_txt _
theorem tx_ratF (q : Rat) : ratF (TX q).data.toList = some q := ratF_text q
theorem DS.sz {d : Nat} {q : Rat} (h : DS d q) : (TX q).size ≤ 2 * d + 4 := by rw [tx_size]; exact Nmx.DS.len h
/-- text q comes back, and only blocks of the call's own have been made -/
def GetsT (q : Rat) (W : World) (e : Ending) (w' : World) : Prop := e = .returned (.string (TX q)) ∧ Below W.heap.size W w'
end Go.Proofs.YtaffbaacilglgaaGreatDoor
namespace Nmx
end Nmx
namespace Go.Proofs.YtaffbaacilglgaaGreatDoor
open Go.RowKit Nmx
open Rf

end Go.Proofs.YtaffbaacilglgaaGreatDoor
namespace Go.Proofs.YtaffbaacilglgaaGreatDoor
open Go.RowKit Nmx
open Rf

end Go.Proofs.YtaffbaacilglgaaGreatDoor

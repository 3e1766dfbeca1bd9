/- (Rat).Div: out of layer number's text NS. -/
import Derived.Test.YteoklapcifonaaaGreatDoorVNS
import Derived.Test.YteoklapcifonaaaGreatDoorVPE
import Derived.Test.YteoklapcifonaaaGreatDoorVMC
namespace Go.Proofs.YteoklapcifonaaaGreatDoor
open Go.RowKit Nmx
end Go.Proofs.YteoklapcifonaaaGreatDoor
/- Holds at any drawn constraint. -/
namespace Go.Proofs.YteoklapcifonaaaGreatDoor
open Go.RowKit Nmx
/-- the boxes of Holds: the constraint, the value -/
structure HB (w W : World) (r s : Int) (a1 : Option Addr) (n1 c1 : Nat) (t1 tm : ByteArray) : Prop where
 a : W.heap[w.heap.size]? = some (.cells #[.int .i64 r, .int .i64 s, .slice a1 n1 c1, .string t1, .string tm] 39 (0, 0))
 bel : Below w.heap.size w W
theorem HB.far {w W W' : World} {r s : Int} {a1 : Option Addr} {n1 c1 : Nat} {t1 tm : ByteArray} (h : HB w W r s a1 n1 c1 t1 tm) (hb : Below W.heap.size W W') : HB w W' r s a1 n1 c1 t1 tm :=
 ⟨(hb.block _ (lt_of_heap h.a)).trans h.a, h.bel.trans (hb.mono h.bel.size)⟩
end Go.Proofs.YteoklapcifonaaaGreatDoor

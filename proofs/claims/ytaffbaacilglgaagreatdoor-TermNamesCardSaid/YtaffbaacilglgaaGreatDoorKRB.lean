/- Bytes and texts in memory, for the reference's walks. -/
import Derived.Test.YtaffbaacilglgaaGreatDoorKNB
import Derived.Deep.DeepCutAuto
import Derived.Deep.RegionHeld3
import Derived.Deep.LoopGhost
import Derived.StillTailTactics
namespace Go.Proofs.YtaffbaacilglgaaGreatDoor.Rf
open Go.RowKit Nmx
theorem size_data (s : ByteArray) : s.data.toList.length = s.size := by rw [Array.length_toList]; rfl
theorem ex_data (s : ByteArray) (a b : Nat) : (s.extract a b).data.toList = (s.data.toList.drop a).take (b - a) := by
  rw [ByteArray.data_extract, Array.toList_extract]
theorem isE (s : ByteArray) : s.toList.isEmpty = decide (s.size = 0) := by
  rw [ByteArray.toList_eq, ← size_data]
  cases s.data.toList <;> simp
theorem byte_at (s : ByteArray) (k : Nat) (h : k < s.size) : s.data.toList[k]? = some s[k] := by
  rw [List.getElem?_eq_getElem (by rw [size_data]; exact h)]; rfl
theorem take_all (s : ByteArray) (k : Nat) (h : k < s.size) (ha : (s.data.toList.take k).all isD = true) (hc : isD s[k] = true) : (s.data.toList.take (k + 1)).all isD = true := by
  rw [List.take_add_one, byte_at s k h, List.all_append, ha]; simpa using hc
theorem not_all (s : ByteArray) (k : Nat) (h : k < s.size) (hc : isD s[k] = false) : s.data.toList.all isD = false := by
  rw [List.all_eq_false]
  exact ⟨s[k], List.mem_of_getElem? (byte_at s k h), by rw [hc]; simp⟩
def bcs (l : List UInt8) : List Value := l.map fun b => Value.int .u8 (b.toNat : Int)
theorem bcs_append (a b : List UInt8) : bcs (a ++ b) = bcs a ++ bcs b := by simp [bcs]
theorem infoU8 : (Tryz.prog.info? 5).map (fun i => (i.zero, i.size, i.bytes)) = some (some (.int .u8 0), 1, 1) := by kernel_rfl
theorem sz_txt (l : List UInt8) : (⟨l.toArray⟩ : ByteArray).size = l.length := by simp [ByteArray.size]

end Go.Proofs.YtaffbaacilglgaaGreatDoor.Rf
namespace Go.Proofs.YtaffbaacilglgaaGreatDoor
open Go.RowKit Nmx
open Rf

end Go.Proofs.YtaffbaacilglgaaGreatDoor
namespace Go.Proofs.YtaffbaacilglgaaGreatDoor
open Go.RowKit Nmx
open Rf

end Go.Proofs.YtaffbaacilglgaaGreatDoor
namespace Go.Proofs.YtaffbaacilglgaaGreatDoor
open Go.RowKit Nmx
open Rf

end Go.Proofs.YtaffbaacilglgaaGreatDoor
/- The reference's mulMag. -/
namespace Go.Proofs.YtaffbaacilglgaaGreatDoor
open Go.RowKit Nmx
open Rf

end Go.Proofs.YtaffbaacilglgaaGreatDoor
namespace Go.Proofs.YtaffbaacilglgaaGreatDoor
open Go.RowKit Nmx
open Rf

end Go.Proofs.YtaffbaacilglgaaGreatDoor
namespace Go.Proofs.YtaffbaacilglgaaGreatDoor
open Go.RowKit Nmx
open Rf

end Go.Proofs.YtaffbaacilglgaaGreatDoor

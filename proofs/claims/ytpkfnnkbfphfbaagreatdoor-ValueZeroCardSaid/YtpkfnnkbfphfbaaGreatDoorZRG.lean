/- Bytes and texts in memory, for the reference's walks. -/
import Derived.Test.YtpkfnnkbfphfbaaGreatDoorZNC
import Derived.Deep.DeepCutAuto
import Derived.Deep.RegionHeld3
import Derived.Deep.LoopGhost
import Derived.StillTailTactics
import Derived.Deep.CutBlock
namespace Go.Proofs.YtpkfnnkbfphfbaaGreatDoor.Rf
open Go.RowKit Nmx
theorem size_data (s : ByteArray) : s.data.toList.length = s.size := by rw [Array.length_toList]; rfl
theorem ex_data (s : ByteArray) (a b : Nat) : (s.extract a b).data.toList = (s.data.toList.drop a).take (b - a) := by
  rw [ByteArray.data_extract, Array.toList_extract]
theorem isE (s : ByteArray) : s.toList.isEmpty = decide (s.size = 0) := by
  rw [ByteArray.toList_eq, ← size_data]
  cases s.data.toList <;> simp
theorem byte_at (s : ByteArray) (k : Nat) (h : k < s.size) : s.data.toList[k]? = some s[k] := by
  rw [List.getElem?_eq_getElem (by rw [size_data]; exact h)]; rfl
theorem take_all (s : ByteArray) (k : Nat) (h : k < s.size) (ha : (s.data.toList.take k).all isD = true) (hc : isD s[k] = true) : (s.data.toList.take (k + 1)).all isD = true := by
  rw [List.take_add_one, byte_at s k h, List.all_append, ha]; simpa using hc
theorem not_all (s : ByteArray) (k : Nat) (h : k < s.size) (hc : isD s[k] = false) : s.data.toList.all isD = false := by
  rw [List.all_eq_false]
  exact ⟨s[k], List.mem_of_getElem? (byte_at s k h), by rw [hc]; simp⟩
def bcs (l : List UInt8) : List Value := l.map fun b => Value.int .u8 (b.toNat : Int)
theorem bcs_append (a b : List UInt8) : bcs (a ++ b) = bcs a ++ bcs b := by simp [bcs]
theorem infoU8 : (Tryz.prog.info? 5).map (fun i => (i.zero, i.size, i.bytes)) = some (some (.int .u8 0), 1, 1) := by kernel_rfl
theorem sz_txt (l : List UInt8) : (⟨l.toArray⟩ : ByteArray).size = l.length := by simp [ByteArray.size]

end Go.Proofs.YtpkfnnkbfphfbaaGreatDoor.Rf
namespace Go.Proofs.YtpkfnnkbfphfbaaGreatDoor
open Go.RowKit Nmx
open Rf

end Go.Proofs.YtpkfnnkbfphfbaaGreatDoor
namespace Go.Proofs.YtpkfnnkbfphfbaaGreatDoor
open Go.RowKit Nmx
open Rf

end Go.Proofs.YtpkfnnkbfphfbaaGreatDoor
namespace Go.Proofs.YtpkfnnkbfphfbaaGreatDoor
open Go.RowKit Nmx
open Rf

end Go.Proofs.YtpkfnnkbfphfbaaGreatDoor
/- The reference's mulMag. -/
namespace Go.Proofs.YtpkfnnkbfphfbaaGreatDoor
open Go.RowKit Nmx
open Rf

theorem infoInt : (Tryz.prog.info? 3).map (fun i => (i.zero, i.size, i.bytes)) = some (some (.int .i64 0), 1, 8) := by kernel_rfl
end Go.Proofs.YtpkfnnkbfphfbaaGreatDoor
namespace Go.Proofs.YtpkfnnkbfphfbaaGreatDoor
open Go.RowKit Nmx
open Rf

end Go.Proofs.YtpkfnnkbfphfbaaGreatDoor
namespace Go.Proofs.YtpkfnnkbfphfbaaGreatDoor
open Go.RowKit Nmx
open Rf

end Go.Proofs.YtpkfnnkbfphfbaaGreatDoor
/- The reference's parse. -/
namespace Go.Proofs.YtpkfnnkbfphfbaaGreatDoor
open Go.RowKit Nmx
open Rf

end Go.Proofs.YtpkfnnkbfphfbaaGreatDoor
/- The reference's parse at every text. -/
namespace Go.Proofs.YtpkfnnkbfphfbaaGreatDoor
open Go.RowKit Nmx
open Rf

end Go.Proofs.YtpkfnnkbfphfbaaGreatDoor
namespace Go.Proofs.YtpkfnnkbfphfbaaGreatDoor
open Go.RowKit Nmx
open Rf

end Go.Proofs.YtpkfnnkbfphfbaaGreatDoor
namespace Go.Proofs.YtpkfnnkbfphfbaaGreatDoor
open Go.RowKit Nmx
open Rf

end Go.Proofs.YtpkfnnkbfphfbaaGreatDoor
/- The reference's Mul, Div. -/
namespace Go.Proofs.YtpkfnnkbfphfbaaGreatDoor
open Go.RowKit Nmx
open Rf

end Go.Proofs.YtpkfnnkbfphfbaaGreatDoor
namespace Go.Proofs.YtpkfnnkbfphfbaaGreatDoor
open Go.RowKit Nmx
open Rf

end Go.Proofs.YtpkfnnkbfphfbaaGreatDoor
/- The reference's functions at texts of numbers; Floor, Sub. -/
namespace Go.Proofs.YtpkfnnkbfphfbaaGreatDoor
open Go.RowKit Nmx
open Rf

/-- the text of a number -/
def TX (q : Rat) : ByteArray := ⟨(textQ q).toArray⟩
theorem tx_list (q : Rat) : (TX q).data.toList = textQ q := rfl
theorem tx_size (q : Rat) : (TX q).size = (textQ q).length := sz_txt _
theorem tx_ratF (q : Rat) : ratF (TX q).data.toList = some q := ratF_text q
theorem DS.sz {d : Nat} {q : Rat} (h : DS d q) : (TX q).size ≤ 2 * d + 4 := by rw [tx_size]; exact Nmx.DS.len h
/-- text q comes back, and only blocks of the call's own have been made -/
def GetsT (q : Rat) (W : World) (e : Ending) (w' : World) : Prop := e = .returned (.string (TX q)) ∧ Below W.heap.size W w'
theorem tx_eq (p q : Rat) : ((TX p).toList == (TX q).toList) = decide (p = q) := by
  rw [Bool.eq_iff_iff, beq_iff_eq, decide_eq_true_eq, ByteArray.toList_eq, ByteArray.toList_eq, tx_list, tx_list]
  exact ⟨textQ_inj, fun h => by rw [h]⟩
end Go.Proofs.YtpkfnnkbfphfbaaGreatDoor
namespace Nmx
end Nmx
namespace Go.Proofs.YtpkfnnkbfphfbaaGreatDoor
open Go.RowKit Nmx
open Rf

end Go.Proofs.YtpkfnnkbfphfbaaGreatDoor
namespace Go.Proofs.YtpkfnnkbfphfbaaGreatDoor
open Go.RowKit Nmx
open Rf

end Go.Proofs.YtpkfnnkbfphfbaaGreatDoor

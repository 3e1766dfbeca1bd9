/- Plain words about bytes, words and items: no program. -/
import Derived.Test.YthefknoicelhaaaGreatDoorFShelf
import Derived.Test.YthefknoicelhaaaGreatDoorRows
import Derived.WalkKit
import Derived.WalkSpells
import Derived.WalkLawsBesides
import Derived.Deep.QuietTactic
import Derived.BigQuiet
import Derived.Lib.Hide
import Derived.Shelf.Strings.SlTrimAscii
import Derived.Lib.IndexBytes
import Derived.BigRegion
import Derived.StillTailTactics
import Derived.Deep.RegionHeld3
import Derived.Deep.AppendLies
import Derived.Deep.RegionLaw
namespace Sx

def dig (c : UInt8) : Bool := decide (48 ≤ c.toNat) && decide (c.toNat ≤ 57)
def let1 (c : UInt8) : Bool := (decide (97 ≤ c.toNat) && decide (c.toNat ≤ 122)) || (decide (65 ≤ c.toNat) && decide (c.toNat ≤ 90))
def marks : List UInt8 := [126, 33, 64, 36, 37, 94, 38, 42, 95, 45, 43, 61, 60, 62, 46, 63, 47, 58]
def wb (c : UInt8) : Bool := dig c || let1 c || marks.contains c
/-- what stands before the first point, and what stands behind it -/
def upto (l : List UInt8) : List UInt8 := l.takeWhile (· != 46)
def behind (l : List UInt8) : List UInt8 := (l.dropWhile (· != 46)).drop 1
end Sx
/- What the functions of single bytes answer: for every byte. -/
namespace Go.Proofs.YthefknoicelhaaaGreatDoor.Se
open Go.RowKit

theorem ret_int {k : IntKind} {a b : Int} (h : a = b) : Ending.returned (.int k a) = .returned (.int k b) := by rw [h]
theorem ret_bool {a b : Bool} (h : a = b) : Ending.returned (.bool a) = .returned (.bool b) := by rw [h]
end Go.Proofs.YthefknoicelhaaaGreatDoor.Se
/- What the functions of whole words answer: for every string. -/
namespace Go.Proofs.YthefknoicelhaaaGreatDoor.Se
open Go.RowKit

theorem indexByte_cut : ∀ l : List UInt8, (l.contains 46 = true → 0 ≤ Lib.indexByte l 46 ∧ l.take (Lib.indexByte l 46).toNat = Sx.upto l ∧ l.drop ((Lib.indexByte l 46).toNat + 1) = Sx.behind l) ∧ (l.contains 46 = false → Lib.indexByte l 46 = -1) := by
  intro l
  induction l with
  | nil => exact ⟨fun h => by simp at h, fun _ => rfl⟩
  | cons b r ih =>
    obtain ⟨i1, i2⟩ := ih
    by_cases hb : b = 46
    · subst hb
      exact ⟨fun _ => ⟨by simp [Lib.indexByte], by simp [Lib.indexByte, Sx.upto], by simp [Lib.indexByte, Sx.behind]⟩, fun h => by simp at h⟩
    · have hb' : (b == (46 : UInt8)) = false := by simpa using hb
      have hbn : (b != (46 : UInt8)) = true := by simpa using hb
      have hc : (b :: r).contains 46 = r.contains 46 := by
        rw [List.contains_cons]
        rw [show ((46 : UInt8) == b) = false by rw [beq_eq_false_iff_ne]; exact fun e => hb e.symm]
        simp
      rw [hc]
      constructor
      · intro h
        obtain ⟨h0, h1, h2⟩ := i1 h
        have hi : Lib.indexByte (b :: r) 46 = Lib.indexByte r 46 + 1 := by
          have hne : (Lib.indexByte r 46 == -1) = false := by rw [beq_eq_false_iff_ne]; omega
          simp [Lib.indexByte, hb', hne]
        obtain ⟨n, hn⟩ := Int.eq_ofNat_of_zero_le h0
        rw [hi, hn]
        have e1 : ((n : Int) + 1).toNat = n + 1 := by omega
        rw [hn] at h1 h2
        rw [e1]
        simp only [Int.toNat_natCast] at h1 h2
        refine ⟨by omega, ?_, ?_⟩
        · rw [List.take_succ_cons, h1]; unfold Sx.upto; rw [List.takeWhile_cons, hbn]; simp
        · rw [List.drop_succ_cons, h2]; unfold Sx.behind; rw [List.dropWhile_cons, hbn]; simp
      · intro h
        rw [Lib.indexByte, hb', i2 h]; rfl

end Go.Proofs.YthefknoicelhaaaGreatDoor.Se
/- The reader of package sexpr: its four cells and what it owns; 'skip' passes what it passes, for every text. -/
namespace Go.Proofs.YthefknoicelhaaaGreatDoor.Se
open Go.RowKit

end Go.Proofs.YthefknoicelhaaaGreatDoor.Se
/- 'add' appends an item to the innermost open list. -/
namespace Go.Proofs.YthefknoicelhaaaGreatDoor.Se
open Go.RowKit

/-- a slice that owns something shows what it is -/
theorem ownsRow_shape {w : World} {base : Nat} {e : TypeId} {size : Nat} {v : Value} {n : Nat} {xs : List Value} (h : w.ownsRow base e size v n xs) (hn : 0 < n) : ∃ g cap, v = .slice (some ⟨g, 0, none⟩) n cap ∧ base ≤ g ∧ n ≤ cap ∧ cap ≤ maxLen := by
  obtain ⟨_, h | ⟨g, cap, cur, hv, hb, hh, hn, hc, _⟩⟩ := h
  · omega
  · exact ⟨g, cap, hv, hb, hn, hc⟩
theorem ownsRow_len {w : World} {base : Nat} {e : TypeId} {size : Nat} {v : Value} {n : Nat} {xs : List Value} (h : w.ownsRow base e size v n xs) : ∃ a cap, v = .slice a n cap := by
  obtain ⟨_, h | ⟨g, cap, cur, hv, hb, hh, hn, hc, _⟩⟩ := h
  · exact ⟨none, 0, by rw [h.1, h.2]⟩
  · exact ⟨_, _, hv⟩




theorem infoInt : (Tryz.prog.info? 3).map (fun i => (i.zero, i.size, i.bytes)) = some (some (.int .i64 0), 1, 8) := by kernel_rfl







end Go.Proofs.YthefknoicelhaaaGreatDoor.Se
/- strings.Builder at this program: copyCheck, WriteByte and WriteString, the rest is the shelf's. -/
namespace Go.Proofs.YthefknoicelhaaaGreatDoor.Se
open Go.RowKit



end Go.Proofs.YthefknoicelhaaaGreatDoor.Se
/- 'text' reads a string in quotes. -/
namespace Go.Proofs.YthefknoicelhaaaGreatDoor.Se
open Go.RowKit
















end Go.Proofs.YthefknoicelhaaaGreatDoor.Se
/- 'item' reads one item. -/
namespace Go.Proofs.YthefknoicelhaaaGreatDoor.Se
open Go.RowKit

end Go.Proofs.YthefknoicelhaaaGreatDoor.Se
/- 'item' reads one item: strings and words. -/
namespace Go.Proofs.YthefknoicelhaaaGreatDoor.Se
open Go.RowKit



end Go.Proofs.YthefknoicelhaaaGreatDoor.Se
/- 'Parse' reads a whole text: for every text of at most 65536 bytes. -/
namespace Go.Proofs.YthefknoicelhaaaGreatDoor.Se
open Go.RowKit

theorem ownsRow_mono {w : World} {b b' : Nat} {e : TypeId} {z : Nat} {v : Value} {n : Nat} {xs : List Value} (h : w.ownsRow b e z v n xs) (hb : b' ≤ b) : w.ownsRow b' e z v n xs := by
  obtain ⟨hl, h0 | ⟨g, cap, cur, hv, hg, r⟩⟩ := h
  · exact ⟨hl, .inl h0⟩
  · exact ⟨hl, .inr ⟨g, cap, cur, hv, by omega, r⟩⟩





end Go.Proofs.YthefknoicelhaaaGreatDoor.Se
/- 'permitted' tells whether the fields of an item are permitted. -/
namespace Go.Proofs.YthefknoicelhaaaGreatDoor.Se
open Go.RowKit

end Go.Proofs.YthefknoicelhaaaGreatDoor.Se
/- 'Ends' over the items of a list: where each item's descendants end. -/
namespace Go.Proofs.YthefknoicelhaaaGreatDoor.Se
open Go.RowKit

set_option maxHeartbeats 400000 in

/-- k steps along the ends, from e: nothing if the list is too short -/
def stepsE (n base : Nat) (E : List Nat) : Nat → Nat → Option Nat
  | 0, e => some e
  | k + 1, e => if n ≤ e then none else stepsE n base E k (E.getD (e - base) 0)
/-- the ends of the items from index n - ks.length on -/
def endsF (n : Nat) : List Int → Option (List Nat)
  | [] => some []
  | k :: ks => match endsF n ks with
    | none => none
    | some E => if k < 0 ∨ (n : Int) < k then none else
      match stepsE n (n - ks.length) E k.toNat (n - ks.length) with
      | none => none
      | some e => some (e :: E)

theorem stepsE_bd (n base : Nat) (E : List Nat) (hE : ∀ t (h : t < E.length), base + t < E[t] ∧ E[t] ≤ n) (hl : base + E.length = n) : ∀ (k e e' : Nat), base ≤ e → e ≤ n → stepsE n base E k e = some e' → e ≤ e' ∧ e' ≤ n := by
  intro k
  induction k with
  | zero => intro e e' h1 h2 h; simp only [stepsE] at h; cases h; exact ⟨Nat.le_refl _, h2⟩
  | succ k ih =>
    intro e e' h1 h2 h
    simp only [stepsE] at h
    split at h
    · cases h
    · have hlt : e - base < E.length := by omega
      rw [List.getD_eq_getElem?_getD, List.getElem?_eq_getElem hlt, Option.getD_some] at h
      have hb := hE (e - base) hlt
      have := ih _ e' (by omega) hb.2 h
      omega
theorem endsF_bd (n : Nat) : ∀ (ks : List Int) (E : List Nat), ks.length ≤ n → endsF n ks = some E → E.length = ks.length ∧ ∀ t (h : t < E.length), n - ks.length + t < E[t] ∧ E[t] ≤ n := by
  intro ks
  induction ks with
  | nil => intro E _ h; simp only [endsF] at h; cases h; exact ⟨rfl, by intro t h; simp at h⟩
  | cons k ks ih =>
    intro E hl h
    simp only [List.length_cons] at hl
    simp only [endsF] at h
    cases e : endsF n ks with
    | none => rw [e] at h; cases h
    | some E' =>
      rw [e] at h
      obtain ⟨h1, h2⟩ := ih E' (by omega) e
      simp only at h
      split at h
      · cases h
      · cases e2 : stepsE n (n - ks.length) E' k.toNat (n - ks.length) with
        | none => rw [e2] at h; cases h
        | some x =>
          rw [e2] at h; cases h
          have hb := stepsE_bd n (n - ks.length) E' h2 (by omega) k.toNat (n - ks.length) x (Nat.le_refl _) (by omega) e2
          refine ⟨by simp [h1], ?_⟩
          intro t ht
          cases t with
          | zero => simp only [List.length_cons, List.getElem_cons_zero]; omega
          | succ t =>
            simp only [List.length_cons, List.getElem_cons_succ]
            have := h2 t (by simp at ht; omega)
            omega

/-- the cells of the row as it is filled from its end -/
def rowE (j : Nat) (E : List Nat) : List Value := List.replicate j (.int .i64 0) ++ E.map fun n : Nat => Value.int .i64 n
theorem rowE_set (j e : Nat) (E : List Nat) : (rowE (j + 1) E).set j (.int .i64 e) = rowE j (e :: E) := by
  unfold rowE
  rw [List.replicate_succ', List.append_assoc, List.set_append_right _ _ (by simp)]
  simp
theorem rowE_get (j t : Nat) (E : List Nat) (h : t < E.length) : (rowE j E)[j + t]? = some (.int .i64 E[t]) := by
  unfold rowE
  rw [List.getElem?_append_right (by simp)]
  simp [h]

def EndsPost (w : World) (n : Nat) (ks : List Int) (e : Ending) (w' : World) : Prop :=
  Below w.heap.size w w' ∧ match endsF n ks with
    | some E => ∃ v, e = .returned (.tuple #[v, .bool true]) ∧ w'.ownsRow w.heap.size 3 1 v n (E.map fun n : Nat => Value.int .i64 n)
    | none => e = .returned (.tuple #[.slice none 0 0, .bool false])

theorem EndsPost.none_of {w w' : World} {n : Nat} {ks : List Int} (hb : Below w.heap.size w w') (h : endsF n ks = none) : EndsPost w n ks (.returned (.tuple #[.slice none 0 0, .bool false])) w' := by
  unfold EndsPost; rw [h]; exact ⟨hb, rfl⟩
theorem EndsPost.some_of {w w' : World} {n : Nat} {ks : List Int} {E : List Nat} {v : Value} (hb : Below w.heap.size w w') (h : endsF n ks = some E) (ho : w'.ownsRow w.heap.size 3 1 v n (E.map fun n : Nat => Value.int .i64 n)) : EndsPost w n ks (.returned (.tuple #[v, .bool true])) w' := by
  unfold EndsPost; rw [h]; exact ⟨hb, v, rfl, ho⟩
theorem endsF_none (n : Nat) (ks : List Int) : ∀ j, endsF n (ks.drop j) = none → endsF n ks = none := by
  intro j
  induction j generalizing ks with
  | zero => intro h; rwa [List.drop_zero] at h
  | succ j ih =>
    intro h
    cases ks with
    | nil => simpa using h
    | cons a r =>
      rw [List.drop_succ_cons] at h
      have := ih r h
      simp only [endsF]; rw [this]
theorem made_zero (n : Nat) : (madeCells (Value.cells (.int .i64 0)) (n * 1)).toList = rowE n [] := by
  unfold rowE
  rw [List.map_nil, List.append_nil, List.eq_replicate_iff]
  refine ⟨by simp [madeCells], fun x hx => ?_⟩
  simp only [madeCells, Value.cells, Array.toList_map, List.mem_map] at hx
  obtain ⟨a, _, rfl⟩ := hx
  simp [Nat.mod_one]

end Go.Proofs.YthefknoicelhaaaGreatDoor.Se

/- Linear expressions in memory. -/
import Derived.Test.YtgfoljpjdmeooaaGreatDoorLB
namespace Go.Proofs.YtgfoljpjdmeooaaGreatDoor
open Go.RowKit Nmx
open Go.Lib (compareBytes)

/-- a slice of coefficients -/
structure CSl (w : World) (ao : Option Addr) (g off cap : Nat) (cs : List (List UInt8 × Rat)) : Prop where
  le : cs.length ≤ cap
  most : cap ≤ 9223372036854775807
  ad : 0 < cap → ao = some ⟨g, off, none⟩
  nm : ∀ i (h : i < cs.length), w.cell? ⟨g, off + i * 2, none⟩ = some (.string ⟨cs[i].1.toArray⟩)
  nu : ∀ i (h : i < cs.length), w.cell? ⟨g, off + i * 2 + 1, none⟩ = some (.string (TX cs[i].2))
theorem CSl.far {w w' : World} {ao : Option Addr} {g off cap : Nat} {cs : List (List UInt8 × Rat)} (h : CSl w ao g off cap cs) (hb : Below w.heap.size w w') : CSl w' ao g off cap cs :=
  ⟨h.le, h.most, h.ad, fun i hi => (hb.cell (World.block_lt_of_cell? _ _ (h.nm i hi))).trans (h.nm i hi), fun i hi => (hb.cell (World.block_lt_of_cell? _ _ (h.nu i hi))).trans (h.nu i hi)⟩
theorem less_of : ∀ a b : List UInt8, ltB a b → Op.bytesLess a b = true
  | [], [], h => by unfold ltB compareBytes at h; cases h
  | _ :: _, [], h => by unfold ltB compareBytes at h; cases h
  | [], _ :: _, _ => rfl
  | x :: a, y :: b, h => by
    unfold Op.bytesLess
    unfold ltB compareBytes at h
    by_cases h1 : x < y
    · simp [h1]
    · rw [if_neg h1] at h
      by_cases h2 : y < x
      · rw [if_pos h2] at h; cases h
      · rw [if_neg h2] at h
        have hxy : x = y := UInt8.le_antisymm (UInt8.not_lt.1 h2) (UInt8.not_lt.1 h1)
        have := less_of a b h
        simp [hxy, this]
theorem less_ba {a b : List UInt8} (h : ltB a b) : Op.bytesLess (⟨a.toArray⟩ : ByteArray).toList (⟨b.toArray⟩ : ByteArray).toList = true := by
  rw [ByteArray.toList_eq, ByteArray.toList_eq]; exact less_of a b h
theorem can_at {l : List (List UInt8 × Rat)} (h : Can ltB l) : ∀ i (hi : i + 1 < l.length), ltB l[i].1 l[i + 1].1 := by
  induction l with
  | nil => intro i hi; exact absurd hi (by simp)
  | cons x l ih =>
    obtain ⟨n, p⟩ := x
    intro i hi
    cases i with
    | zero => exact h.2.1 _ (List.getElem_mem _)
    | succ i => exact ih h.2.2 i (by rw [List.length_cons] at hi; omega)
theorem can_nz {l : List (List UInt8 × Rat)} (h : Can ltB l) : ∀ x ∈ l, x.2 ≠ 0 := by
  induction l with
  | nil => exact fun x hx => (List.not_mem_nil hx).elim
  | cons y l ih =>
    intro x hx
    rcases List.mem_cons.1 hx with h1 | h1
    · rw [h1]; exact h.1
    · exact ih h.2.2 x h1
/-- the names of the drawn expressions -/
def nm4 : List (List UInt8) := [[117], [118], [120], [121]]
section
set_option maxRecDepth 100000
set_option maxHeartbeats 4000000
theorem isName_4 (c : UInt8) (hc : c = 117 ∨ c = 118 ∨ c = 120 ∨ c = 121) (w : World) : Calls Tryz.prog 56 #[.string ⟨#[c]⟩] w fun e w' => e = .returned (.bool true) ∧ w' = w := by
  rcases hc with rfl | rfl | rfl | rfl
  all_goals
    go_enter Tryz.func56, Tryz.ntmps56
    go_wp2
    go_loop [3] (fun i => i = .int .i64 0 ∨ i = .int .i64 1) (fun i => 1 - (intOf i).toNat)
    case atStart => exact .inl rfl
    case round =>
      rcases hrel with rfl | rfl
      · go_wp2
        exact Nat.lt_of_lt_of_le (show (1 - (intOf (.int .i64 1)).toNat) < 1 from by decide) (by decide)
      · go_wp2
        go_ret
        exact ⟨rfl, rfl⟩
theorem isName_nm (l : List UInt8) (h : l ∈ nm4) (w : World) : Calls Tryz.prog 56 #[.string ⟨l.toArray⟩] w fun e w' => e = .returned (.bool true) ∧ w' = w := by
  simp only [nm4, List.mem_cons, List.not_mem_nil, or_false] at h
  rcases h with rfl | rfl | rfl | rfl
  · exact isName_4 117 (.inl rfl) w
  · exact isName_4 118 (.inr (.inl rfl)) w
  · exact isName_4 120 (.inr (.inr (.inl rfl))) w
  · exact isName_4 121 (.inr (.inr (.inr rfl))) w
theorem numValidE {d : Nat} {q : Rat} (hq : DS d q) (hd : d ≤ 3000) (W : World) (h : Env W) : Calls Tryz.prog 41 #[.string (TX q)] W fun e w' => e = .returned (.bool true) ∧ Below W.heap.size W w' := by
  have hs := DS.sz hq
  have hc := numValid_any (TX q) W (by omega) h (gcdAt_any (by rw [size_data]; omega))
  rw [tx_ratF] at hc
  exact hc
/-- coefficients of drawn expressions -/
structure Good (d : Nat) (cs : List (List UInt8 × Rat)) : Prop where
  can : Can ltB cs
  nm : ∀ x ∈ cs, x.1 ∈ nm4
  ds : ∀ x ∈ cs, DS d x.2
end
end Go.Proofs.YtgfoljpjdmeooaaGreatDoor

/- Rows of coefficients; where 'combine' stands. -/
import Derived.Test.YtgfoljpjdmeooaaGreatDoorLC
namespace Go.Proofs.YtgfoljpjdmeooaaGreatDoor
open Go.RowKit Nmx
open Go.Lib (compareBytes)

/-- the cells of a row of coefficients -/
def flat : List (List UInt8 × Rat) → List Value
  | [] => []
  | x :: l => .string ⟨x.1.toArray⟩ :: .string (TX x.2) :: flat l
theorem flat_append (a b : List (List UInt8 × Rat)) : flat (a ++ b) = flat a ++ flat b := by
  induction a with
  | nil => rfl
  | cons x a ih => rw [List.cons_append, flat, ih]; rfl
theorem flat_length (a : List (List UInt8 × Rat)) : (flat a).length = a.length * 2 := by
  induction a with
  | nil => rfl
  | cons x a ih => rw [flat, List.length_cons, List.length_cons, List.length_cons, ih]; omega
theorem flat_nm (a : List (List UInt8 × Rat)) : ∀ i (h : i < a.length), (flat a)[i * 2]? = some (.string ⟨a[i].1.toArray⟩) := by
  induction a with
  | nil => intro i h; exact absurd h (by simp)
  | cons x a ih =>
    intro i h
    cases i with
    | zero => rfl
    | succ i =>
      have := ih i (by rw [List.length_cons] at h; omega)
      rw [show (i + 1) * 2 = i * 2 + 1 + 1 by omega, flat, List.getElem?_cons_succ, List.getElem?_cons_succ, this, List.getElem_cons_succ]
theorem flat_nu (a : List (List UInt8 × Rat)) : ∀ i (h : i < a.length), (flat a)[i * 2 + 1]? = some (.string (TX a[i].2)) := by
  induction a with
  | nil => intro i h; exact absurd h (by simp)
  | cons x a ih =>
    intro i h
    cases i with
    | zero => rfl
    | succ i =>
      have := ih i (by rw [List.length_cons] at h; omega)
      rw [show (i + 1) * 2 + 1 = i * 2 + 1 + 1 + 1 by omega, flat, List.getElem?_cons_succ, List.getElem?_cons_succ, this, List.getElem_cons_succ]
theorem csl_of_row {w : World} {base : Nat} {e : TypeId} {v : Value} {rs : List (List UInt8 × Rat)} (h : w.ownsRow base e 2 v rs.length (flat rs)) :
    ∃ ao g cap, v = .slice ao rs.length cap ∧ CSl w ao g 0 cap rs ∧ (rs.length = 0 ∨ base ≤ g) := by
  rcases h.2 with ⟨rfl, hn⟩ | ⟨g, cap, cur, hv, hb, hg, hn, hc, _, htake⟩
  · refine ⟨none, 0, 0, by rw [hn], ⟨by omega, by omega, fun h => by omega, fun i hi => by omega, fun i hi => by omega⟩, .inl hn⟩
  · have hcell : ∀ j u, (flat rs)[j]? = some u → w.cell? ⟨g, j, none⟩ = some u := fun j u hu => by
      have := h.cells (g := g) (by rw [hv]; rfl) j u hu
      rwa [show (⟨g, 0, none⟩ : Addr).add j = ⟨g, j, none⟩ by unfold Addr.add; split <;> simp_all] at this
    refine ⟨some ⟨g, 0, none⟩, g, cap, hv, ⟨hn, hc, fun _ => rfl, fun i hi => ?_, fun i hi => ?_⟩, .inr hb⟩
    · rw [Nat.zero_add]; exact hcell _ _ (flat_nm rs i hi)
    · rw [Nat.zero_add]; exact hcell _ _ (flat_nu rs i hi)
/-- where 'combine' stands: i coefficients of the one, j of the other are taken -/
structure CS (d : Nat) (k : Rat) (cs1 cs2 r : List (List UInt8 × Rat)) (i j : Nat) : Prop where
  cm : Cmb ltB k cs1 cs2 r (cs1.drop i) (cs2.drop j)
  nm : ∀ x ∈ r, x.1 ∈ cs1.map Prod.fst ∨ x.1 ∈ cs2.map Prod.fst
  ds : ∀ x ∈ r, DS d x.2
theorem CS.start {d : Nat} {k : Rat} {cs1 cs2 : List (List UInt8 × Rat)} (h1 : Can ltB cs1) (h2 : Can ltB cs2) : CS d k cs1 cs2 [] 0 0 :=
  ⟨Cmb.start h1 h2, fun _ hx => (List.not_mem_nil hx).elim, fun _ hx => (List.not_mem_nil hx).elim⟩
theorem CS.stop {d : Nat} {k : Rat} {cs1 cs2 r : List (List UInt8 × Rat)} (h : CS d k cs1 cs2 r cs1.length cs2.length) : Can ltB r ∧ ∀ n, cof r n = cof cs1 n + k * cof cs2 n := by
  have := h.cm
  rw [List.drop_length, List.drop_length] at this
  exact this.stop
theorem mem_put {r : List (List UInt8 × Rat)} {n : List UInt8} {c : Rat} {x : List UInt8 × Rat} (h : x ∈ if c = 0 then r else r ++ [(n, c)]) : x ∈ r ∨ x = (n, c) := by
  split at h
  · exact .inl h
  · rcases List.mem_append.1 h with h | h
    · exact .inl h
    · exact .inr (List.mem_singleton.1 h)
theorem CS.left {d : Nat} {k : Rat} {cs1 cs2 r : List (List UInt8 × Rat)} {i j : Nat} (h : CS d k cs1 cs2 r i j) (hi : i < cs1.length) (hj : ∀ hj : j < cs2.length, ltB cs1[i].1 cs2[j].1) (hd : DS d cs1[i].2) :
    CS d k cs1 cs2 (if cs1[i].2 = 0 then r else r ++ [(cs1[i].1, cs1[i].2)]) (i + 1) j := by
  have hc := h.cm
  rw [List.drop_eq_getElem_cons hi] at hc
  refine ⟨hc.left ord_ltB fun y hy => ?_, fun x hx => ?_, fun x hx => ?_⟩
  · by_cases hjl : j < cs2.length
    · rw [List.drop_eq_getElem_cons hjl] at hy
      obtain rfl := Option.some.inj hy
      exact hj hjl
    · rw [List.drop_eq_nil_of_le (by omega)] at hy; cases hy
  · rcases mem_put hx with h1 | rfl
    · exact h.nm x h1
    · exact .inl (List.mem_map.2 ⟨_, List.getElem_mem hi, rfl⟩)
  · rcases mem_put hx with h1 | rfl
    · exact h.ds x h1
    · exact hd
theorem CS.right {d : Nat} {k : Rat} {cs1 cs2 r : List (List UInt8 × Rat)} {i j : Nat} (h : CS d k cs1 cs2 r i j) (hj : j < cs2.length) (hi : ∀ hi : i < cs1.length, ltB cs2[j].1 cs1[i].1) (hd : DS d (k * cs2[j].2)) :
    CS d k cs1 cs2 (if k * cs2[j].2 = 0 then r else r ++ [(cs2[j].1, k * cs2[j].2)]) i (j + 1) := by
  have hc := h.cm
  rw [List.drop_eq_getElem_cons hj] at hc
  refine ⟨hc.right ord_ltB fun y hy => ?_, fun x hx => ?_, fun x hx => ?_⟩
  · by_cases hil : i < cs1.length
    · rw [List.drop_eq_getElem_cons hil] at hy
      obtain rfl := Option.some.inj hy
      exact hi hil
    · rw [List.drop_eq_nil_of_le (by omega)] at hy; cases hy
  · rcases mem_put hx with h1 | rfl
    · exact h.nm x h1
    · exact .inr (List.mem_map.2 ⟨_, List.getElem_mem hj, rfl⟩)
  · rcases mem_put hx with h1 | rfl
    · exact h.ds x h1
    · exact hd
theorem CS.both {d : Nat} {k : Rat} {cs1 cs2 r : List (List UInt8 × Rat)} {i j : Nat} (h : CS d k cs1 cs2 r i j) (hi : i < cs1.length) (hj : j < cs2.length) (he : cs1[i].1 = cs2[j].1) (hd : DS d (cs1[i].2 + k * cs2[j].2)) :
    CS d k cs1 cs2 (if cs1[i].2 + k * cs2[j].2 = 0 then r else r ++ [(cs2[j].1, cs1[i].2 + k * cs2[j].2)]) (i + 1) (j + 1) := by
  have hc := h.cm
  rw [List.drop_eq_getElem_cons hi, List.drop_eq_getElem_cons hj] at hc
  have h1 : cs1[i] = (cs2[j].1, cs1[i].2) := by rw [← he]
  rw [h1] at hc
  refine ⟨hc.both ord_ltB, fun x hx => ?_, fun x hx => ?_⟩
  · rcases mem_put hx with h1 | rfl
    · exact h.nm x h1
    · exact .inr (List.mem_map.2 ⟨_, List.getElem_mem hj, rfl⟩)
  · rcases mem_put hx with h1 | rfl
    · exact h.ds x h1
    · exact hd
end Go.Proofs.YtgfoljpjdmeooaaGreatDoor

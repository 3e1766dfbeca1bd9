/- The positive number that makes coefficients integers without a common divisor. -/
import Derived.Test.YtgfoljpjdmeooaaGreatDoorKLA
namespace Go.Proofs.YtgfoljpjdmeooaaGreatDoor
section
variable {K : Type}
/-- k makes the coefficients integers without a common divisor -/
structure IsPrim (k : Rat) (l : List (K × Rat)) : Prop where
  pos : 0 < k
  int : ∀ x ∈ l, (k * x.2).den = 1
  one : ∀ m : Nat, (∀ x ∈ l, m ∣ (k * x.2).num.natAbs) → m = 1
theorem num_den (q : Rat) : (q.num : Rat) / ((q.den : Nat) : Rat) = q := by
  have h := Rat.num_divInt_den q
  rw [Rat.divInt_eq_div, Rat.intCast_natCast] at h
  exact h
theorem den_ne (q : Rat) : ((q.den : Nat) : Rat) ≠ 0 := by
  rw [← Rat.intCast_natCast]
  intro e
  have := Rat.intCast_eq_zero_iff.1 e
  have := q.den_pos
  omega
theorem mul_den (q : Rat) : q * ((q.den : Nat) : Rat) = (q.num : Rat) := by
  have h := num_den q
  have hd := den_ne q
  generalize ((q.den : Nat) : Rat) = d at *
  generalize (q.num : Rat) = n at *
  rw [← h, Rat.div_def, Rat.mul_assoc, Rat.inv_mul_cancel _ hd, Rat.mul_one]
theorem rat_int {q : Rat} (h : q.den = 1) : q = ((q.num : Int) : Rat) := by
  have := mul_den q
  rw [h] at this
  rw [← this]
  grind
theorem prim_le {k k' : Rat} {l : List (K × Rat)} (h : IsPrim k l) (h' : IsPrim k' l) : (k' / k).den = 1 ∧ (k / k').den = 1 := by
  have key : ∀ {k k' : Rat}, IsPrim k l → IsPrim k' l → (k' / k).den = 1 := by
    intro k k' h h'
    have hk : k ≠ 0 := fun e => by have := h.pos; rw [e] at this; exact absurd this (by decide)
    refine h.one _ fun x hx => ?_
    have e1 := rat_int (h.int x hx)
    have e2 := rat_int (h'.int x hx)
    generalize (k * x.2).num = n at *
    generalize (k' * x.2).num = n' at *
    have e3 : k' / k * k = k' := by rw [Rat.div_def, Rat.mul_assoc, Rat.inv_mul_cancel _ hk, Rat.mul_one]
    generalize ht : k' / k = t at *
    have e4 : (t.num : Rat) = t * t.den := (mul_den t).symm
    have e5 : ((n' * t.den : Int) : Rat) = ((t.num * n : Int) : Rat) := by
      rw [Rat.intCast_mul, Rat.intCast_mul, ← e1, ← e2, e4]
      rw [Rat.intCast_natCast]
      grind
    have e6 := Rat.intCast_inj.1 e5
    have e7 : (t.den : Int) ∣ t.num * n := ⟨n', by rw [← e6, Int.mul_comm]⟩
    have e8 : t.den ∣ t.num.natAbs * n.natAbs := by
      have := Int.natAbs_dvd_natAbs.2 e7
      rwa [Int.natAbs_mul, Int.natAbs_natCast] at this
    exact (Nat.Coprime.dvd_of_dvd_mul_left t.reduced.symm e8)
  exact ⟨key h h', key h' h⟩
theorem prim_uniq {k k' : Rat} {l : List (K × Rat)} (h : IsPrim k l) (h' : IsPrim k' l) : k = k' := by
  obtain ⟨h1, h2⟩ := prim_le h h'
  have hk : k ≠ 0 := fun e => by have := h.pos; rw [e] at this; exact absurd this (by decide)
  have hk' : k' ≠ 0 := fun e => by have := h'.pos; rw [e] at this; exact absurd this (by decide)
  have e1 := rat_int h1
  have e2 := rat_int h2
  have e3 : k' / k * (k / k') = 1 := by grind
  have p1 : 0 < k' / k := by
    rw [Rat.div_def]; exact Rat.mul_pos h'.pos (Rat.inv_pos.2 h.pos)
  generalize hq : k' / k = q at *
  generalize k / k' = r at *
  rw [e1, e2, ← Rat.intCast_mul] at e3
  have e4 : q.num * r.num = 1 := Rat.intCast_inj.1 (by rw [e3]; rfl)
  have hp : 0 < q.num := Rat.intCast_pos.1 (by rw [← e1]; exact p1)
  have e5 : q.num = 1 := by
    have hd : q.num ∣ 1 := ⟨_, e4.symm⟩
    have := Int.le_of_dvd (by omega) hd
    omega
  rw [e5] at e1
  have : k' = k := by
    have e6 : k' / k * k = k' := by rw [Rat.div_def, Rat.mul_assoc, Rat.inv_mul_cancel _ hk, Rat.mul_one]
    rw [hq, e1] at e6
    rw [← e6]; grind
  exact this.symm
def scl (f : Rat) (l : List (K × Rat)) : List (K × Rat) := l.map fun x => (x.1, f * x.2)
theorem prim_scl {f k : Rat} {l : List (K × Rat)} (hf : 0 < f) (h : IsPrim k (scl f l)) : IsPrim (k * f) l := by
  refine ⟨Rat.mul_pos h.pos hf, fun x hx => ?_, fun m hm => h.one m fun x hx => ?_⟩
  · rw [Rat.mul_assoc]
    exact h.int (x.1, f * x.2) (List.mem_map.2 ⟨x, hx, rfl⟩)
  · obtain ⟨y, hy, rfl⟩ := List.mem_map.1 hx
    have := hm y hy
    rwa [Rat.mul_assoc] at this
/-- the least common multiple of the denominators -/
def denL (D : Nat) : List (K × Rat) → Nat
  | [] => D
  | x :: l => denL (Nat.lcm D x.2.den) l
/-- the greatest common divisor of what they are then -/
def numL (D g : Nat) : List (K × Rat) → Nat
  | [] => g
  | x :: l => numL D (Nat.gcd g (x.2 * D).num.natAbs) l
theorem denL_dvd (l : List (K × Rat)) : ∀ D : Nat, D ∣ denL D l ∧ ∀ x ∈ l, x.2.den ∣ denL D l := by
  induction l with
  | nil => exact fun D => ⟨Nat.dvd_refl _, fun x hx => (List.not_mem_nil hx).elim⟩
  | cons y l ih =>
    intro D
    obtain ⟨h1, h2⟩ := ih (Nat.lcm D y.2.den)
    refine ⟨Nat.dvd_trans (Nat.dvd_lcm_left _ _) h1, fun x hx => ?_⟩
    rcases List.mem_cons.1 hx with rfl | hx
    · exact Nat.dvd_trans (Nat.dvd_lcm_right _ _) h1
    · exact h2 x hx
theorem denL_pos (l : List (K × Rat)) : ∀ D : Nat, 0 < D → 0 < denL D l := by
  induction l with
  | nil => exact fun D h => h
  | cons y l ih => exact fun D h => ih _ (Nat.lcm_pos h y.2.den_pos)
theorem numL_dvd (D : Nat) (l : List (K × Rat)) : ∀ g : Nat, numL D g l ∣ g ∧ (∀ x ∈ l, numL D g l ∣ (x.2 * D).num.natAbs) ∧ ∀ m, m ∣ g → (∀ x ∈ l, m ∣ (x.2 * D).num.natAbs) → m ∣ numL D g l := by
  induction l with
  | nil => exact fun g => ⟨Nat.dvd_refl _, fun x hx => (List.not_mem_nil hx).elim, fun m h _ => h⟩
  | cons y l ih =>
    intro g
    obtain ⟨h1, h2, h3⟩ := ih (Nat.gcd g (y.2 * D).num.natAbs)
    refine ⟨Nat.dvd_trans h1 (Nat.gcd_dvd_left _ _), fun x hx => ?_, fun m hg hm => h3 m (Nat.dvd_gcd hg (hm y (by simp))) fun x hx => hm x (by simp [hx])⟩
    rcases List.mem_cons.1 hx with rfl | hx
    · exact Nat.dvd_trans h1 (Nat.gcd_dvd_right _ _)
    · exact h2 x hx
theorem mul_den_int {q : Rat} {D : Nat} (h : q.den ∣ D) : (q * D).den = 1 := by
  obtain ⟨m, rfl⟩ := h
  have : q * ((q.den * m : Nat) : Rat) = ((q.num * m : Int) : Rat) := by
    have e := mul_den q
    rw [Rat.intCast_mul, ← e]
    have h1 : ((q.den * m : Nat) : Rat) = (q.den : Rat) * (m : Rat) := Rat.natCast_mul _ _
    have h2 : ((m : Int) : Rat) = (m : Rat) := Rat.intCast_natCast m
    rw [h1, h2]; grind
  rw [this]; rfl
theorem prim_is {l : List (K × Rat)} (hl : l ≠ []) (hz : ∀ x ∈ l, x.2 ≠ 0) : 0 < numL (denL 1 l) 0 l ∧ IsPrim ((denL 1 l : Nat) / (numL (denL 1 l) 0 l : Nat) : Rat) l := by
  obtain ⟨-, hd⟩ := denL_dvd l 1
  have hp := denL_pos l 1 (by omega)
  generalize denL 1 l = D at *
  obtain ⟨-, hg, hgm⟩ := numL_dvd D l 0
  have hD : (D : Rat) ≠ 0 := by
    intro e
    have : ((D : Int) : Rat) = ((0 : Int) : Rat) := by simpa using e
    have := Rat.intCast_inj.1 this
    omega
  have hnz : ∀ x ∈ l, (x.2 * D).num.natAbs ≠ 0 := by
    intro x hx e
    have h1 : (x.2 * D).num = 0 := by omega
    have h2 := Rat.num_eq_zero.1 h1
    rcases Rat.mul_eq_zero.1 h2 with h3 | h3
    · exact hz x hx h3
    · exact hD h3
  have hgp : 0 < numL D 0 l := by
    cases l with
    | nil => exact absurd rfl hl
    | cons y l =>
      rcases Nat.eq_zero_or_pos (numL D 0 (y :: l)) with h0 | h0
      · have := hg y (by simp)
        rw [h0] at this
        exact absurd (Nat.eq_zero_of_zero_dvd this) (hnz y (by simp))
      · exact h0
  refine ⟨hgp, ?_⟩
  generalize numL D 0 l = G at *
  have hG : (G : Rat) ≠ 0 := by
    intro e
    have : ((G : Int) : Rat) = ((0 : Int) : Rat) := by simpa using e
    have := Rat.intCast_inj.1 this
    omega
  have hcast : ∀ n : Nat, (n : Rat) = ((n : Int) : Rat) := fun n => (Rat.intCast_natCast n).symm
  have hval : ∀ x ∈ l, ∃ z : Int, (D : Rat) / (G : Rat) * x.2 = (z : Rat) ∧ (x.2 * D).num = G * z := by
    intro x hx
    have h1 := rat_int (mul_den_int (hd x hx))
    obtain ⟨z, hz⟩ : (G : Int) ∣ (x.2 * D).num := Int.natAbs_dvd_natAbs.1 (by rw [Int.natAbs_natCast]; exact hg x hx)
    refine ⟨z, ?_, hz⟩
    rw [hz, Rat.intCast_mul, ← hcast] at h1
    grind
  refine ⟨?_, fun x hx => ?_, fun m hm => ?_⟩
  · rw [Rat.div_def]
    refine Rat.mul_pos ?_ (Rat.inv_pos.2 ?_)
    · rw [hcast]; exact Rat.intCast_pos.2 (by omega)
    · rw [hcast]; exact Rat.intCast_pos.2 (by omega)
  · obtain ⟨z, hz, _⟩ := hval x hx
    rw [hz]; rfl
  · have h1 : m * G ∣ G := hgm (m * G) (Nat.dvd_zero _) fun x hx => by
      obtain ⟨z, hz, hz2⟩ := hval x hx
      have := hm x hx
      rw [hz] at this
      rw [hz2, Int.natAbs_mul, Int.natAbs_natCast, Nat.mul_comm]
      exact Nat.mul_dvd_mul (Nat.dvd_refl _) this
    have h2 := Nat.le_of_dvd hgp h1
    rcases Nat.lt_or_ge 1 m with h3 | h3
    · have : 2 * G ≤ m * G := Nat.mul_le_mul_right _ h3
      omega
    · rcases Nat.eq_zero_or_pos m with h4 | h4
      · subst h4
        rw [Nat.zero_mul] at h1
        have := Nat.eq_zero_of_zero_dvd h1
        omega
      · omega
end
end Go.Proofs.YtgfoljpjdmeooaaGreatDoor

/- Constraints that differ by a positive factor: the comparisons' normal forms are the same. -/
import Derived.Test.YtgfoljpjdmeooaaGreatDoorKMC
namespace Go.Proofs.YtgfoljpjdmeooaaGreatDoor
open Go.RowKit Nmx

theorem scl_cof (f : Rat) (l : List (List UInt8 × Rat)) (n : List UInt8) : cof (scl f l) n = f * cof l n := by
  induction l with
  | nil => show (0 : Rat) = f * 0; rw [Rat.mul_zero]
  | cons x l ih =>
    show cof ((x.1, f * x.2) :: scl f l) n = _
    rw [cof_cons, cof_cons]
    split
    · rfl
    · exact ih
theorem rat_pos_ne {f : Rat} (hf : 0 < f) : f ≠ 0 := fun e => by rw [e] at hf; exact absurd hf (by decide)
theorem scl_can {f : Rat} (hf : 0 < f) {l : List (List UInt8 × Rat)} (h : Can ltB l) : Can ltB (scl f l) := by
  induction l with
  | nil => trivial
  | cons x l ih =>
    obtain ⟨m, p⟩ := x
    refine ⟨fun e => ?_, fun y hy => ?_, ih h.2.2⟩
    · rcases Rat.mul_eq_zero.1 e with h1 | h1
      · exact rat_pos_ne hf h1
      · exact h.1 h1
    · obtain ⟨z, hz, rfl⟩ := List.mem_map.1 hy
      exact h.2.1 z hz
theorem num_lt (q : Rat) : (q.num < 0 ↔ q < 0) := by
  have := @Rat.num_nonneg q
  constructor
  · intro h
    exact Rat.not_le.1 fun h2 => by have := this.2 h2; omega
  · intro h
    refine Int.not_le.1 fun h2 => ?_
    exact Rat.not_le.2 h (this.1 h2)
theorem num_gt (q : Rat) : (0 < q.num ↔ 0 < q) := by
  have h1 := @Rat.num_nonneg q
  have h2 := @Rat.num_eq_zero q
  constructor
  · intro h
    have h3 := h1.1 (by omega)
    refine Rat.not_le.1 fun h4 => ?_
    have h5 : q = 0 := Rat.le_antisymm h4 h3
    have := h2.2 h5
    omega
  · intro h
    have h3 := h1.2 (Rat.le_of_lt h)
    have h4 : q.num ≠ 0 := fun e => by rw [h2.1 e] at h; exact absurd h (by decide)
    omega
theorem scl_pos {f q : Rat} (hf : 0 < f) : (0 < f * q ↔ 0 < q) := by
  constructor
  · intro h
    refine Rat.not_le.1 fun h2 => Rat.not_le.2 h ?_
    have := Rat.mul_le_mul_of_nonneg_left h2 (Rat.le_of_lt hf)
    rwa [Rat.mul_zero] at this
  · exact fun h => Rat.mul_pos hf h
theorem scl_neg {f q : Rat} (hf : 0 < f) : (f * q < 0 ↔ q < 0) := by
  have h := @scl_pos f (-q) hf
  have e : f * -q = -(f * q) := by grind
  rw [e] at h
  have l1 : ∀ a : Rat, (0 < -a ↔ a < 0) := fun a => by constructor <;> intro h <;> grind
  rw [l1, l1] at h
  exact h
theorem scl_num {f q : Rat} (hf : 0 < f) : sgnI (f * q).num = sgnI q.num := by
  have h1 : (f * q).num < 0 ↔ q.num < 0 := by rw [num_lt, num_lt]; exact scl_neg hf
  have h2 : 0 < (f * q).num ↔ 0 < q.num := by rw [num_gt, num_gt]; exact scl_pos hf
  unfold sgnI
  by_cases a : q.num < 0
  · rw [if_pos a, if_pos (h1.2 a)]
  · rw [if_neg a, if_neg (fun h => a (h1.1 h))]
    by_cases b : 0 < q.num
    · rw [if_pos b, if_pos (h2.2 b)]
    · rw [if_neg b, if_neg (fun h => b (h2.1 h))]
theorem scl_zero {f q : Rat} (hf : 0 < f) : ((f * q).num = 0 ↔ q.num = 0) := by
  rw [Rat.num_eq_zero, Rat.num_eq_zero]
  constructor
  · intro h
    rcases Rat.mul_eq_zero.1 h with h | h
    · exact absurd h (rat_pos_ne hf)
    · exact h
  · intro h; rw [h, Rat.mul_zero]
theorem cmpF_scl {f q : Rat} (hf : 0 < f) (r : Int) : cmpF r (f * q) = cmpF r q := by
  unfold cmpF
  rw [scl_num hf]
  split
  · rfl
  · split
    · rfl
    · exact decide_eq_decide.2 (scl_zero hf)
theorem neg0_scl {f : Rat} (hf : 0 < f) (l : List (List UInt8 × Rat)) : neg0 (scl f l) = neg0 l := by
  cases l with
  | nil => rfl
  | cons x l =>
    show decide ((f * x.2).num < 0) = decide (x.2.num < 0)
    exact decide_eq_decide.2 (by rw [num_lt, num_lt]; exact scl_neg hf)
theorem kF_scl {f : Rat} (hf : 0 < f) (r : Int) {l : List (List UInt8 × Rat)} (h : Can ltB l) (hne : l ≠ []) : kF r (scl f l) * f = kF r l := by
  have hs := scl_can hf h
  have hne' : scl f l ≠ [] := fun e => hne (List.map_eq_nil_iff.1 e)
  have h1 := prim_scl hf (kP_prim hne' (can_nz hs))
  have h2 := prim_uniq h1 (kP_prim hne (can_nz h))
  unfold kF
  rw [neg0_scl hf]
  split
  · rw [← h2]; grind
  · exact h2
/-- the normal forms of comparisons that differ by a positive factor -/
theorem NF_scl {f : Rat} (hf : 0 < f) {r s r1 r2 : Int} {p c1 c2 : Rat} {l l' : List (List UInt8 × Rat)} {f1 f2 : List UInt8 → Rat} (h : Can ltB l) (h' : Can ltB l') (hl : ∀ n, cof l' n = f * cof l n) (n1 : NF r s p l r1 c1 f1) (n2 : NF r s (f * p) l' r2 c2 f2) : r1 = r2 ∧ c1 = c2 ∧ f1 = f2 := by
  obtain rfl : l' = scl f l := can_ext ord_ltB _ _ h' (scl_can hf h) (fun n => by rw [hl n, scl_cof])
  unfold NF at n1 n2
  rw [cmpF_scl hf] at n2
  by_cases hne : l = []
  · subst hne
    rcases n1 with ⟨-, rfl, rfl, rfl⟩ | ⟨h1, -⟩
    · rcases n2 with ⟨-, rfl, rfl, rfl⟩ | ⟨h1, -⟩
      · exact ⟨rfl, rfl, rfl⟩
      · exact absurd rfl h1
    · exact absurd rfl h1
  · have hne' : scl f l ≠ [] := fun e => hne (List.map_eq_nil_iff.1 e)
    have e1 : kF r (scl f l) * (f * p) = kF r l * p := by rw [← Rat.mul_assoc, kF_scl hf r h hne]
    have e2 : (fun n => kF r (scl f l) * cof (scl f l) n) = fun n => kF r l * cof l n := funext fun n => by rw [scl_cof, ← Rat.mul_assoc, kF_scl hf r h hne]
    rw [e1, e2] at n2
    rcases n1 with ⟨h0, -⟩ | ⟨-, n1⟩
    · exact absurd h0 hne
    rcases n2 with ⟨h0, -⟩ | ⟨-, n2⟩
    · exact absurd h0 hne'
    rcases n1 with ⟨a1, rfl, rfl, rfl⟩ | ⟨a1, a2, rfl, rfl, rfl⟩ | ⟨a1, a2, rfl, rfl, rfl⟩ | ⟨a1, a2, a3, rfl, rfl, rfl⟩ | ⟨a1, a2, a3, rfl, rfl, rfl⟩ <;>
    rcases n2 with ⟨b1, rfl, rfl, rfl⟩ | ⟨b1, b2, rfl, rfl, rfl⟩ | ⟨b1, b2, rfl, rfl, rfl⟩ | ⟨b1, b2, b3, rfl, rfl, rfl⟩ | ⟨b1, b2, b3, rfl, rfl, rfl⟩ <;>
    first
      | exact ⟨rfl, rfl, rfl⟩
      | (exfalso; omega)
      | exact absurd a3 b3
      | exact absurd b3 a3
end Go.Proofs.YtgfoljpjdmeooaaGreatDoor
/- The normal form of a divisibility: what it is; it is the same for constraints that differ by a positive factor. -/
namespace Go.Proofs.YtgfoljpjdmeooaaGreatDoor
open Go.RowKit Nmx

/-- a number times the common denominator, modulo the modulus -/
def rsD (F : Nat) (zM : Int) (q : Rat) : Int := (q * ((F : Nat) : Rat)).num % zM
/-- the greatest common divisor of the modulus and the coefficients -/
def gcdL (F : Nat) (zM : Int) : Nat → List (List UInt8 × Rat) → Nat
  | g, [] => g
  | g, x :: l => gcdL F zM (Nat.gcd g (rsD F zM x.2).natAbs) l
/-- the normal form of a divisibility: relation, constant, coefficients, modulus -/
def DF (r m : Int) (p : Rat) (l : List (List UInt8 × Rat)) (r' : Int) (c' : Rat) (f' : List UInt8 → Rat) (tm' : ByteArray) : Prop :=
  ∃ (F : Nat) (zM g : Int), F = denL p.den l ∧ zM = m * F ∧ g = gcdL F zM zM.natAbs l ∧
    ((rsD F zM p % g ≠ 0 ∧ r' = (if r = 4 then 2 else 1) ∧ c' = 0 ∧ (f' = fun _ => 0) ∧ tm' = ⟨#[]⟩) ∨
     (rsD F zM p % g = 0 ∧ zM / g = 1 ∧ r' = (if r = 4 then 1 else 2) ∧ c' = 0 ∧ (f' = fun _ => 0) ∧ tm' = ⟨#[]⟩) ∨
     (rsD F zM p % g = 0 ∧ zM / g ≠ 1 ∧ r' = r ∧ c' = ((rsD F zM p / g : Int) : Rat) ∧ (f' = fun n => ((rsD F zM (cof l n) / g : Int) : Rat)) ∧ tm' = TX ((zM / g : Int) : Rat)))
theorem hom_div {u v : Nat} (hu : 0 < u) (hv : 0 < v) {a a' z z' : Int} (ha : (v : Int) * a' = u * a) (hz : (v : Int) * z' = u * z) : a' / z' = a / z ∧ (v : Int) * (a' % z') = u * (a % z) := by
  have e1 : a' / z' = a / z := by
    rw [← Int.mul_ediv_mul_of_pos a' z' (show (0 : Int) < v by omega), ha, hz, Int.mul_ediv_mul_of_pos a z (show (0 : Int) < u by omega)]
  refine ⟨e1, ?_⟩
  rw [Int.emod_def, Int.emod_def, e1, Int.mul_sub, Int.mul_sub, ha, ← Int.mul_assoc, hz, Int.mul_assoc]
theorem hom_abs {u v : Nat} {a a' : Int} (ha : (v : Int) * a' = u * a) : v * a'.natAbs = u * a.natAbs := by
  have := congrArg Int.natAbs ha
  rwa [Int.natAbs_mul, Int.natAbs_mul, Int.natAbs_natCast, Int.natAbs_natCast] at this
theorem hom_gcd {u v : Nat} {a a' b b' : Nat} (ha : v * a' = u * a) (hb : v * b' = u * b) : v * Nat.gcd a' b' = u * Nat.gcd a b := by
  rw [← Nat.gcd_mul_left, ha, hb, Nat.gcd_mul_left]
theorem int_of_dvd {q : Rat} {F : Nat} (h : q.den ∣ F) : (((q * ((F : Nat) : Rat)).num : Int) : Rat) = q * F := by
  obtain ⟨k, rfl⟩ := h
  have e : q * (((q.den * k : Nat) : Nat) : Rat) = ((q.num * k : Int) : Rat) := by
    have h1 := num_den q
    have h2 : ((q.den : Nat) : Rat) ≠ 0 := by
      intro e
      have : ((q.den : Nat) : Rat) = ((0 : Nat) : Rat) := e
      have := Rat.natCast_inj.1 this
      exact q.den_nz this
    rw [Rat.natCast_mul, Rat.intCast_mul, ← Rat.mul_assoc]
    congr 1
    conv => lhs; lhs; rw [← h1]
    exact Rat.div_mul_cancel h2
  rw [e, Rat.num_intCast]
/-- the factor between the two, as a fraction of integers -/
theorem hom_of {f : Rat} (hf : 0 < f) {F F' : Nat} (h0 : 0 < F) (h0' : 0 < F') : ∃ u v : Nat, 0 < u ∧ 0 < v ∧ ∀ q : Rat, (v : Rat) * ((f * q) * (F' : Nat)) = u * (q * (F : Nat)) := by
  have hF : ((F : Nat) : Rat) ≠ 0 := fun e => by have := Rat.natCast_inj.1 (show ((F : Nat) : Rat) = ((0 : Nat) : Rat) from e); omega
  have hF' : (0 : Rat) < ((F' : Nat) : Rat) := Rat.natCast_pos.2 h0'
  have hFp : (0 : Rat) < ((F : Nat) : Rat) := Rat.natCast_pos.2 h0
  obtain ⟨t, ht⟩ : ∃ t, f * (F' : Nat) / (F : Nat) = t := ⟨_, rfl⟩
  have htF : t * (F : Nat) = f * (F' : Nat) := by rw [← ht]; exact Rat.div_mul_cancel hF
  have hfp := Rat.mul_pos hf hF'
  have htp : 0 < t := by
    refine Rat.not_le.1 fun h => ?_
    have := Rat.mul_le_mul_of_nonneg_right h (Rat.le_of_lt hFp)
    rw [htF, Rat.zero_mul] at this
    exact Rat.not_le.2 hfp this
  have hn : 0 < t.num := (num_gt t).2 htp
  have hd : ((t.den : Nat) : Rat) ≠ 0 := fun e => t.den_nz (Rat.natCast_inj.1 (show ((t.den : Nat) : Rat) = ((0 : Nat) : Rat) from e))
  refine ⟨t.num.toNat, t.den, by omega, Nat.pos_of_ne_zero t.den_nz, fun q => ?_⟩
  have e1 : ((t.num.toNat : Nat) : Rat) = (t.num : Rat) := by
    rw [← Rat.intCast_natCast]; congr 1; omega
  have e2 : ((t.den : Nat) : Rat) * t = (t.num : Rat) := by
    conv => lhs; rhs; rw [← num_den t]
    rw [Rat.mul_comm]; exact Rat.div_mul_cancel hd
  rw [e1, ← e2]
  grind
theorem rs_hom {f : Rat} {F F' u v : Nat} (hu : 0 < u) (hv : 0 < v) {zM zM' : Int} (h : ∀ q : Rat, (v : Rat) * ((f * q) * (F' : Nat)) = u * (q * (F : Nat))) (hz : (v : Int) * zM' = u * zM) {q : Rat} (d1 : q.den ∣ F) (d2 : (f * q).den ∣ F') : (v : Int) * rsD F' zM' (f * q) = u * rsD F zM q := by
  unfold rsD
  refine (hom_div hu hv ?_ hz).2
  have := h q
  rw [← int_of_dvd d1, ← int_of_dvd d2] at this
  rw [← Rat.intCast_natCast v, ← Rat.intCast_natCast u, ← Rat.intCast_mul, ← Rat.intCast_mul] at this
  exact Rat.intCast_inj.1 this
theorem gcdL_hom {f : Rat} {F F' u v : Nat} (hu : 0 < u) (hv : 0 < v) {zM zM' : Int} (h : ∀ q : Rat, (v : Rat) * ((f * q) * (F' : Nat)) = u * (q * (F : Nat))) (hz : (v : Int) * zM' = u * zM) (l : List (List UInt8 × Rat)) : ∀ g g' : Nat, v * g' = u * g → (∀ x ∈ l, x.2.den ∣ F) → (∀ x ∈ l, (f * x.2).den ∣ F') → v * gcdL F' zM' g' (scl f l) = u * gcdL F zM g l := by
  induction l with
  | nil => exact fun g g' hg _ _ => hg
  | cons x l ih =>
    intro g g' hg h1 h2
    exact ih _ _ (hom_gcd hg (hom_abs (rs_hom hu hv h hz (h1 x (by simp)) (h2 x (by simp))))) (fun y hy => h1 y (by simp [hy])) (fun y hy => h2 y (by simp [hy]))
theorem den_dvd_all {f p : Rat} {l : List (List UInt8 × Rat)} : (f * p).den ∣ denL (f * p).den (scl f l) ∧ (∀ x ∈ l, (f * x.2).den ∣ denL (f * p).den (scl f l)) := by
  obtain ⟨h1, h2⟩ := denL_dvd (scl f l) (f * p).den
  exact ⟨h1, fun x hx => h2 (x.1, f * x.2) (List.mem_map.2 ⟨x, hx, rfl⟩)⟩
theorem cof_den {l : List (List UInt8 × Rat)} {F : Nat} (h : ∀ x ∈ l, x.2.den ∣ F) (n : List UInt8) : (cof l n).den ∣ F := by
  induction l with
  | nil => exact Nat.one_dvd F
  | cons x l ih =>
    obtain ⟨m, p⟩ := x
    rw [cof_cons]
    split
    · exact h (m, p) (by simp)
    · exact ih fun y hy => h y (by simp [hy])
/-- the normal forms of divisibilities that differ by a positive factor -/
theorem DF_scl {f : Rat} (hf : 0 < f) {r m m' r1 r2 : Int} {p c1 c2 : Rat} {l l' : List (List UInt8 × Rat)} {f1 f2 : List UInt8 → Rat} {t1 t2 : ByteArray} (hm : ((m' : Int) : Rat) = f * m) (h : Can ltB l) (h' : Can ltB l') (hl : ∀ n, cof l' n = f * cof l n) (n1 : DF r m p l r1 c1 f1 t1) (n2 : DF r m' (f * p) l' r2 c2 f2 t2) : r1 = r2 ∧ c1 = c2 ∧ f1 = f2 ∧ t1 = t2 := by
  obtain rfl : l' = scl f l := can_ext ord_ltB _ _ h' (scl_can hf h) (fun n => by rw [hl n, scl_cof])
  obtain ⟨F, zM, g, hF, hz, hg, n1⟩ := n1
  obtain ⟨F', zM', g', hF', hz', hg', n2⟩ := n2
  obtain ⟨d1, d2⟩ := denL_dvd l p.den
  obtain ⟨d3, d4⟩ := @den_dvd_all f p l
  rw [← hF] at d1 d2
  rw [← hF'] at d3 d4
  have p1 : 0 < F := by rw [hF]; exact denL_pos _ _ (Nat.pos_of_ne_zero p.den_nz)
  have p2 : 0 < F' := by rw [hF']; exact denL_pos _ _ (Nat.pos_of_ne_zero (f * p).den_nz)
  obtain ⟨u, v, hu, hv, hom⟩ := hom_of hf p1 p2
  have hzz : (v : Int) * zM' = u * zM := by
    have := hom m
    rw [← hm, ← Rat.intCast_natCast F', ← Rat.intCast_natCast F, ← Rat.intCast_natCast v, ← Rat.intCast_natCast u, ← Rat.intCast_mul, ← Rat.intCast_mul, ← Rat.intCast_mul, ← Rat.intCast_mul] at this
    rw [hz, hz']
    exact Rat.intCast_inj.1 this
  have hgg : (v : Int) * g' = u * g := by
    rw [hg, hg', ← Int.natCast_mul, ← Int.natCast_mul, gcdL_hom hu hv hom hzz l _ _ (hom_abs hzz) d2 d4]
  have hrp := rs_hom hu hv hom hzz d1 d3
  obtain ⟨e1, e2⟩ := hom_div hu hv hrp hgg
  obtain ⟨e3, -⟩ := hom_div hu hv hzz hgg
  have e4 : rsD F' zM' (f * p) % g' = 0 ↔ rsD F zM p % g = 0 := by
    have hui : ((u : Nat) : Int) ≠ 0 := by omega
    have hvi : ((v : Nat) : Int) ≠ 0 := by omega
    constructor
    · intro h; rw [h, Int.mul_zero] at e2
      rcases Int.mul_eq_zero.1 e2.symm with h | h
      · exact absurd h hui
      · exact h
    · intro h; rw [h, Int.mul_zero] at e2
      rcases Int.mul_eq_zero.1 e2 with h | h
      · exact absurd h hvi
      · exact h
  have e5 : (fun n => ((rsD F' zM' (cof (scl f l) n) / g' : Int) : Rat)) = fun n => ((rsD F zM (cof l n) / g : Int) : Rat) := funext fun n => by
    rw [scl_cof]
    have dn : (f * cof l n).den ∣ F' := by
      rw [← scl_cof]
      exact cof_den (fun x hx => by obtain ⟨y, hy, rfl⟩ := List.mem_map.1 hx; exact d4 y hy) n
    rw [(hom_div hu hv (rs_hom hu hv hom hzz (cof_den d2 n) dn) hgg).1]
  rw [e1, e3, e5] at n2
  rcases n1 with ⟨a1, rfl, rfl, rfl, rfl⟩ | ⟨a1, a2, rfl, rfl, rfl, rfl⟩ | ⟨a1, a2, rfl, rfl, rfl, rfl⟩ <;>
  rcases n2 with ⟨b1, rfl, rfl, rfl, rfl⟩ | ⟨b1, b2, rfl, rfl, rfl, rfl⟩ | ⟨b1, b2, rfl, rfl, rfl, rfl⟩ <;>
  first
    | exact ⟨rfl, rfl, rfl, rfl⟩
    | exact absurd (e4.2 a1) b1
    | exact absurd (e4.1 b1) a1
    | exact absurd a2 b2
    | exact absurd b2 a2
end Go.Proofs.YtgfoljpjdmeooaaGreatDoor

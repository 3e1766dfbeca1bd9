/- What the normal form of a comparison means, and that it is its own normal form. -/
import Derived.Test.YtgfoljpjdmeooaaGreatDoorWMF
import Derived.Test.YtgfoljpjdmeooaaGreatDoorWPE
import Derived.Test.YtgfoljpjdmeooaaGreatDoorWMH
import Derived.Test.YtgfoljpjdmeooaaGreatDoorWPD
import Derived.Test.YtgfoljpjdmeooaaGreatDoorWMJ
namespace Go.Proofs.YtgfoljpjdmeooaaGreatDoor
open Go.RowKit Nmx

theorem evS_add : ∀ (cs : List (List UInt8 × Rat)) (p : Rat) (f : List UInt8 → Rat), evS p cs f = p + evS 0 cs f
  | [], p, f => by show p = p + 0; rw [Rat.add_zero]
  | x :: l, p, f => by
    have h1 := evS_add l (p + x.2 * f x.1) f;have h2 := evS_add l (0 + x.2 * f x.1) f;show evS (p + x.2 * f x.1) l f = p + evS (0 + x.2 * f x.1) l f;rw [h1, h2, Rat.zero_add, Rat.add_assoc]
theorem evS_cons (x : List UInt8 × Rat) (l : List (List UInt8 × Rat)) (f : List UInt8 → Rat) : evS 0 (x :: l) f = x.2 * f x.1 + evS 0 l f := by
  show evS (0 + x.2 * f x.1) l f = _;rw [evS_add, Rat.zero_add]
theorem evS_scl (k : Rat) (f : List UInt8 → Rat) : ∀ l : List (List UInt8 × Rat), evS 0 (scl k l) f = k * evS 0 l f
  | [] => by show (0 : Rat) = k * 0; rw [Rat.mul_zero]
  | x :: l => by
    show evS 0 ((x.1, k * x.2) :: scl k l) f = _;rw [evS_cons, evS_cons, evS_scl k f l, Rat.mul_add, Rat.mul_assoc]
theorem scl_can' {f : Rat} (hf : f ≠ 0) {l : List (List UInt8 × Rat)} (h : Can ltB l) : Can ltB (scl f l) := by
  induction l with
  | nil => trivial
  | cons x l ih =>
    obtain ⟨m, p⟩ := x;refine ⟨fun e => ?_, fun y hy => ?_, ih h.2.2⟩
    · rcases Rat.mul_eq_zero.1 e with h1 | h1
      · exact hf h1
      · exact h.1 h1
    · obtain ⟨z, hz, rfl⟩ := List.mem_map.1 hy;exact h.2.1 z hz
theorem cmpF_le (x : Rat) : cmpF 1 x = decide (x ≤ 0) := by
  unfold cmpF;rw [if_pos rfl];refine decide_eq_decide.2 ?_;have h1 := num_gt x;unfold sgnI
  constructor
  · intro h;refine Rat.not_lt.1 fun h2 => ?_
    have h3 := h1.2 h2;rw [if_neg (by omega), if_pos h3] at h
    omega
  · intro h;have h3 : ¬ 0 < x.num := fun h2 => Rat.not_le.2 (h1.1 h2) h
    split
    · omega
    · exact Int.le_refl 0
theorem cmpF_lt (x : Rat) : cmpF 2 x = decide (x < 0) := by
  unfold cmpF;rw [if_neg (by omega), if_pos rfl];exact decide_eq_decide.2 (by rw [sgnI_neg, num_lt])
theorem cmpF_eq (x : Rat) : cmpF 3 x = decide (x = 0) := by
  unfold cmpF;rw [if_neg (by omega), if_neg (by omega)];exact decide_eq_decide.2 Rat.num_eq_zero
theorem evS_int {f : List UInt8 → Rat} (hf : ∀ n, (f n).den = 1) : ∀ l : List (List UInt8 × Rat), (∀ x ∈ l, x.2.den = 1) → ∃ i : Int, evS 0 l f = i
  | [], _ => ⟨0, rfl⟩
  | x :: l, h => by
    obtain ⟨i, hi⟩ := evS_int hf l fun y hy => h y (by simp [hy])
    have h1 := rat_int (h x (by simp));have h2 := rat_int (hf x.1);refine ⟨x.2.num * (f x.1).num + i, ?_⟩;rw [evS_cons, hi, Rat.intCast_add, Rat.intCast_mul, ← h1, ← h2]
theorem kF_abs (r : Int) (cs : List (List UInt8 × Rat)) : kF r cs = kP cs ∨ (r = 3 ∧ neg0 cs = true ∧ kF r cs = -kP cs) := by
  unfold kF
  split
  · rename_i h; exact .inr ⟨h.1, h.2, rfl⟩
  · exact .inl rfl
theorem kF_ne {r : Int} {cs : List (List UInt8 × Rat)} (hc : Can ltB cs) (hne : cs ≠ []) : kF r cs ≠ 0 := by
  have hp := rat_pos_ne (kP_prim hne (can_nz hc)).pos;rcases kF_abs r cs with h | ⟨-, -, h⟩
  · rw [h]; exact hp
  · rw [h]; intro e; exact hp (by grind)
theorem kF_int {r : Int} {cs : List (List UInt8 × Rat)} (hc : Can ltB cs) (hne : cs ≠ []) : ∀ x ∈ scl (kF r cs) cs, x.2.den = 1 := by
  intro x hx;obtain ⟨y, hy, rfl⟩ := List.mem_map.1 hx;have h1 := (kP_prim hne (can_nz hc)).int y hy;rcases kF_abs r cs with h | ⟨-, -, h⟩
  · rw [h]; exact h1
  · show (kF r cs * y.2).den = 1;rw [h, Rat.neg_mul]; exact h1
/-- the coefficients of the normal form -/
theorem nf_scl {k : Rat} (hk : k ≠ 0) {cs rs : List (List UInt8 × Rat)} (hc : Can ltB cs) (hr : Can ltB rs) (hf : ∀ n, cof rs n = k * cof cs n) : rs = scl k cs :=
  can_ext ord_ltB _ _ hr (scl_can' hk hc) fun n => by rw [hf n, scl_cof]
theorem nf_nil {rs : List (List UInt8 × Rat)} (hr : Can ltB rs) (hf : ∀ n, cof rs n = 0) : rs = [] :=
  can_ext ord_ltB _ _ hr trivial fun n => by rw [hf n]; rfl
theorem flI_le' (x : Rat) : (flI x : Rat) ≤ x := by
  unfold flI;rw [Rat.le_iff, Rat.num_intCast, Rat.den_intCast];have := Int.ediv_mul_le x.num (b := (x.den : Int)) (by have := x.den_nz; omega)
  omega
theorem flI_lt' (x : Rat) : x < (flI x : Rat) + 1 := by
  have h1 : (flI x : Rat) + 1 = ((flI x + 1 : Int) : Rat) := by rw [Rat.intCast_add]; rfl
  rw [h1];unfold flI;rw [Rat.lt_iff, Rat.num_intCast, Rat.den_intCast];have := Int.lt_ediv_add_one_mul_self x.num (b := (x.den : Int)) (by have := x.den_nz; omega)
  omega
theorem int_le {q : Rat} {i : Int} : (((ceI q : Int) : Rat) + i ≤ 0 ↔ q + i ≤ 0) := by
  have h1 : q ≤ ((ceI q : Int) : Rat) := by
    have := flI_le' (-q);unfold ceI;rw [Rat.intCast_neg]
    grind
  have h2 : ((ceI q : Int) : Rat) < q + 1 := by
    have := flI_lt' (-q);unfold ceI;rw [Rat.intCast_neg]
    grind
  constructor
  · intro h; grind
  · intro h;have h3 : ((ceI q : Int) : Rat) + i < 1 := by grind
    have h4 : ((ceI q + i : Int) : Rat) < ((1 : Int) : Rat) := by rw [Rat.intCast_add]; exact h3
    have h5 := Rat.intCast_lt_intCast.1 h4;have h6 : ((ceI q + i : Int) : Rat) ≤ ((0 : Int) : Rat) := Rat.intCast_le_intCast.2 (by omega);rw [Rat.intCast_add] at h6;exact h6
theorem int_lt {q : Rat} {i : Int} : (((flI q + 1 : Int) : Rat) + i ≤ 0 ↔ q + i < 0) := by
  have h1 := flI_le' q;have h2 := flI_lt' q
  constructor
  · intro h;rw [Rat.intCast_add] at h;have h3 : ((1 : Int) : Rat) = 1 := rfl;rw [h3] at h
    grind
  · intro h;have h3 : ((flI q : Int) : Rat) + i < 0 := by grind
    have h4 : ((flI q + i : Int) : Rat) < ((0 : Int) : Rat) := by rw [Rat.intCast_add]; exact h3
    have h5 := Rat.intCast_lt_intCast.1 h4;have h6 : ((flI q + 1 + i : Int) : Rat) ≤ ((0 : Int) : Rat) := Rat.intCast_le_intCast.2 (by omega);rw [Rat.intCast_add] at h6;exact h6
theorem cmpF_mul {r : Int} {k x : Rat} (hr : r = 1 ∨ r = 2 ∨ r = 3) (hk : k ≠ 0) (hp : r = 3 ∨ 0 < k) : cmpF r (k * x) = cmpF r x := by
  rcases hp with rfl | hp
  · rw [cmpF_eq, cmpF_eq];refine decide_eq_decide.2 ⟨fun h => ?_, fun h => by rw [h, Rat.mul_zero]⟩;exact (Rat.mul_eq_zero.1 h).resolve_left hk
  · exact cmpF_scl hp r
/-- the normal form is true for the same values -/
theorem NF_true {r s : Int} {p : Rat} {cs : List (List UInt8 × Rat)} {r' : Int} {c' : Rat} {f' : List UInt8 → Rat} (hn : NF r s p cs r' c' f') (hr : r = 1 ∨ r = 2 ∨ r = 3) (hc : Can ltB cs) {rs : List (List UInt8 × Rat)} (hrs : Can ltB rs) (hf : ∀ n, cof rs n = f' n) {v : List UInt8 → Rat} (hv : s = 2 → ∀ n, (v n).den = 1) : cmpF r' (evS c' rs v) = cmpF r (evS p cs v) := by
  rcases hn with ⟨rfl, rfl, rfl, rfl⟩ | ⟨hne, hn⟩
  · have := nf_nil hrs hf;subst this;show cmpF _ (0 : Rat) = cmpF r p;cases h : cmpF r p
    · rw [if_neg (by decide)]; rw [cmpF_lt]; decide
    · rw [if_pos rfl, cmpF_le]; decide
  · have hk := kF_ne (r := r) hc hne
    have hpos : r = 3 ∨ 0 < kF r cs := by
      rcases kF_abs r cs with h | ⟨h, -⟩
      · rw [h]; exact .inr (kP_prim hne (can_nz hc)).pos
      · exact .inl h
    have hI := fun (hs : s = 2) => evS_int (hv hs) _ (kF_int (r := r) hc hne)
    have hI2 : s = 2 → ∃ i : Int, kF r cs * evS 0 cs v = i := fun hs => by obtain ⟨i, hi⟩ := hI hs; exact ⟨i, by rw [← hi, evS_scl]⟩
    rw [evS_add rs, evS_add cs p]
    have key : ∀ q, f' = (fun n => kF r cs * cof cs n) → q + evS 0 rs v = q + kF r cs * evS 0 cs v := fun q h => by
      subst h;rw [nf_scl hk hc hrs hf, evS_scl]
    generalize hkk : kF r cs = k at *;generalize evS 0 cs v = E at *;rcases hn with ⟨-, rfl, rfl, rfl⟩ | ⟨hs, rfl, rfl, rfl, rfl⟩ | ⟨hs, rfl, rfl, rfl, rfl⟩ | ⟨hs, rfl, hd, rfl, rfl, rfl⟩ | ⟨hs, rfl, hd, rfl, rfl, rfl⟩
    · rw [key _ rfl, ← Rat.mul_add];exact cmpF_mul hr hk hpos
    · rw [key _ rfl];obtain ⟨i, hi⟩ := hI2 hs;have hp : 0 < k := hpos.resolve_left (by omega);rw [show cmpF 1 (p + E) = cmpF 1 (k * (p + E)) from (cmpF_scl hp 1).symm, Rat.mul_add, hi, cmpF_le, cmpF_le];exact decide_eq_decide.2 int_le
    · rw [key _ rfl];obtain ⟨i, hi⟩ := hI2 hs;have hp : 0 < k := hpos.resolve_left (by omega);rw [show cmpF 2 (p + E) = cmpF 2 (k * (p + E)) from (cmpF_scl hp 2).symm, Rat.mul_add, hi, cmpF_le, cmpF_lt];exact decide_eq_decide.2 int_lt
    · rw [key _ rfl, ← Rat.mul_add];exact cmpF_mul (.inr (.inr rfl)) hk (.inl rfl)
    · have := nf_nil hrs hf;subst this;obtain ⟨i, hi⟩ := hI2 hs;rw [show evS 0 [] v = 0 from rfl, Rat.add_zero, cmpF_lt, ← cmpF_mul (.inr (.inr rfl)) hk (.inl rfl), Rat.mul_add, hi, cmpF_eq];refine decide_eq_decide.2 ⟨fun h => absurd h (by decide), fun h => ?_⟩
      exact absurd (show (k * p).den = 1 by
        have e : k * p = ((-i : Int) : Rat) := by rw [Rat.intCast_neg]; grind
        rw [e]; exact Rat.den_intCast _) hd
theorem prim_one {r : Int} {cs : List (List UInt8 × Rat)} (hc : Can ltB cs) (hne : cs ≠ []) : IsPrim 1 (scl (kF r cs) cs) := by
  refine ⟨by decide, fun x hx => by rw [Rat.one_mul]; exact kF_int hc hne x hx, fun m hm => (kP_prim hne (can_nz hc)).one m fun y hy => ?_⟩;have h1 := hm (y.1, kF r cs * y.2) (List.mem_map.2 ⟨y, hy, rfl⟩);rw [Rat.one_mul] at h1;rcases kF_abs r cs with h | ⟨-, -, h⟩
  · rw [h] at h1; exact h1
  · rw [h, Rat.neg_mul] at h1
    have e : (-(kP cs * y.2)).num.natAbs = (kP cs * y.2).num.natAbs := by
      show (-(kP cs * y.2).num).natAbs = _;exact Int.natAbs_neg _
    have h2 : m ∣ (-(kP cs * y.2)).num.natAbs := h1;rwa [e] at h2
theorem kF_one {r r' : Int} {cs : List (List UInt8 × Rat)} (hc : Can ltB cs) (hne : cs ≠ []) (hr : r' = 3 → r = 3) : kF r' (scl (kF r cs) cs) = 1 := by
  have hne' : scl (kF r cs) cs ≠ [] := fun e => hne (List.map_eq_nil_iff.1 e)
  have h1 : kP (scl (kF r cs) cs) = 1 := prim_uniq (kP_prim hne' (can_nz (scl_can' (kF_ne hc hne) hc))) (prim_one hc hne);rcases kF_abs r' (scl (kF r cs) cs) with h | ⟨h3, hn, -⟩
  · rw [h, h1]
  · exfalso
    have hr3 := hr h3;subst hr3;have hp := (kP_prim hne (can_nz hc)).pos;cases cs with
    | nil => exact hne rfl
    | cons x l =>
      have hn' : (kF 3 (x :: l) * x.2).num < 0 := of_decide_eq_true hn;rw [num_lt] at hn';rcases kF_abs 3 (x :: l) with h | ⟨-, h0, h⟩
      · rw [h, scl_neg hp] at hn'
        have h0 : ¬ (3 = (3 : Int) ∧ neg0 (x :: l) = true) := fun h0 => by
          have h4 : kF 3 (x :: l) = -kP (x :: l) := by unfold kF; rw [if_pos h0]
          rw [h] at h4
          grind
        exact h0 ⟨rfl, decide_eq_true ((num_lt _).2 hn')⟩
      · have h5 : x.2.num < 0 := of_decide_eq_true h0;rw [num_lt, ← scl_neg hp] at h5;rw [h] at hn'
        grind
theorem ceI_int (z : Int) : ceI (z : Rat) = z := by
  unfold ceI flI;rw [← Rat.intCast_neg, Rat.num_intCast, Rat.den_intCast]
  simp
/-- a normal form of a comparison is its own normal form -/
theorem NF_idem {r s : Int} {p : Rat} {cs : List (List UInt8 × Rat)} {r' : Int} {c' : Rat} {f' : List UInt8 → Rat} (hn : NF r s p cs r' c' f') (hc : Can ltB cs) {rs : List (List UInt8 × Rat)} (hrs : Can ltB rs) (hf : ∀ n, cof rs n = f' n) {r2 : Int} {c2 : Rat} {f2 : List UInt8 → Rat} (h2 : NF r' s c' rs r2 c2 f2) : r2 = r' ∧ c2 = c' ∧ ∀ n, f2 n = cof rs n := by
  have knil : ∀ b : Bool, rs = [] → NF (if b then 1 else 2) s 0 rs r2 c2 f2 → r2 = (if b then 1 else 2) ∧ c2 = 0 ∧ ∀ n, f2 n = cof rs n := by
    intro b hrs h;subst hrs;rcases h with ⟨-, rfl, rfl, rfl⟩ | ⟨h, -⟩
    · refine ⟨?_, rfl, fun _ => rfl⟩;cases b
      · show (if cmpF 2 0 = true then (1 : Int) else 2) = 2;rw [cmpF_lt]; rfl
      · show (if cmpF 1 0 = true then (1 : Int) else 2) = 1;rw [cmpF_le]; rfl
    · exact absurd rfl h
  rcases hn with ⟨rfl, rfl, rfl, rfl⟩ | ⟨hne, hn⟩
  · exact knil _ (nf_nil hrs hf) h2
  · have hk := kF_ne (r := r) hc hne;have hko := fun (r' : Int) (hr : r' = 3 → r = 3) => kF_one (r := r) (r' := r') hc hne hr
    have key : f' = (fun n => kF r cs * cof cs n) → rs = scl (kF r cs) cs := fun h => by
      subst h;exact nf_scl hk hc hrs hf
    have hsn : scl (kF r cs) cs ≠ [] := fun e => hne (List.map_eq_nil_iff.1 e)
    have done : ∀ (r' : Int) (c' : Rat), (r' = 3 → r = 3) → rs = scl (kF r cs) cs → (s = 2 → r' = 1 → ∃ z : Int, c' = z) → (s = 2 → r' ≠ 2) → (s = 2 → r' = 3 → c'.den = 1) → NF r' s c' rs r2 c2 f2 → r2 = r' ∧ c2 = c' ∧ ∀ n, f2 n = cof rs n := by
      intro r' c' hr hrs g1 g2 g3 h;have hko' := hko r' hr;rw [← hrs] at hko' hsn;rcases h with ⟨h, -⟩ | ⟨-, ⟨-, rfl, rfl, rfl⟩ | ⟨hs, rfl, rfl, rfl, rfl⟩ | ⟨hs, rfl, rfl, rfl, rfl⟩ | ⟨hs, rfl, hd, rfl, rfl, rfl⟩ | ⟨hs, rfl, hd, rfl, rfl, rfl⟩⟩
      · exact absurd h hsn
      · rw [hko']; exact ⟨rfl, Rat.one_mul _, fun n => Rat.one_mul _⟩
      · rw [hko', Rat.one_mul];obtain ⟨z, hz⟩ := g1 hs rfl;subst hz;exact ⟨rfl, by rw [ceI_int], fun n => Rat.one_mul _⟩
      · exact absurd rfl (g2 hs)
      · rw [hko']; exact ⟨rfl, Rat.one_mul _, fun n => Rat.one_mul _⟩
      · rw [hko', Rat.one_mul] at hd;exact absurd (g3 hs rfl) hd
    rcases hn with ⟨hs, rfl, rfl, rfl⟩ | ⟨hs, rfl, rfl, rfl, rfl⟩ | ⟨hs, rfl, rfl, rfl, rfl⟩ | ⟨hs, rfl, hd, rfl, rfl, rfl⟩ | ⟨hs, rfl, hd, rfl, rfl, rfl⟩
    · exact done _ _ id (key rfl) (fun h => by omega) (fun h => by omega) (fun h => by omega) h2
    · exact done _ _ (fun h => by omega) (key rfl) (fun _ _ => ⟨_, rfl⟩) (fun _ => by omega) (fun _ h => by omega) h2
    · exact done _ _ (fun h => by omega) (key rfl) (fun _ _ => ⟨_, rfl⟩) (fun _ => by omega) (fun _ h => by omega) h2
    · exact done _ _ id (key rfl) (fun _ h => by omega) (fun _ => by omega) (fun _ _ => hd) h2
    · exact knil false (nf_nil hrs hf) h2
end Go.Proofs.YtgfoljpjdmeooaaGreatDoor
/- What the normal form of a divisibility means, and that it is its own normal form. -/
namespace Go.Proofs.YtgfoljpjdmeooaaGreatDoor
open Go.RowKit Nmx

/-- the sum of products of integers -/
def sumI (φ : Rat → Int) (V : List UInt8 → Int) : List (List UInt8 × Rat) → Int
  | [] => 0
  | x :: l => φ x.2 * V x.1 + sumI φ V l
theorem sumI_sub {φ ψ : Rat → Int} {z : Int} (V : List UInt8 → Int) : ∀ l : List (List UInt8 × Rat), (∀ x ∈ l, z ∣ φ x.2 - ψ x.2) → z ∣ sumI φ V l - sumI ψ V l
  | [], _ => ⟨0, by rw [Int.mul_zero]; rfl⟩
  | x :: l, h => by
    obtain ⟨a, ha⟩ := h x (by simp);obtain ⟨b, hb⟩ := sumI_sub V l fun y hy => h y (by simp [hy])
    refine ⟨a * V x.1 + b, ?_⟩;show φ x.2 * V x.1 + sumI φ V l - (ψ x.2 * V x.1 + sumI ψ V l) = _;rw [Int.mul_add, ← Int.mul_assoc, ← ha, ← hb, Int.sub_mul]
    omega
theorem sumI_mul {φ ψ : Rat → Int} {g : Int} (V : List UInt8 → Int) : ∀ l : List (List UInt8 × Rat), (∀ x ∈ l, φ x.2 = g * ψ x.2) → sumI φ V l = g * sumI ψ V l
  | [], _ => (Int.mul_zero g).symm
  | x :: l, h => by
    show φ x.2 * V x.1 + sumI φ V l = g * (ψ x.2 * V x.1 + sumI ψ V l);rw [h x (by simp), sumI_mul V l fun y hy => h y (by simp [hy]), Int.mul_add, Int.mul_assoc]
theorem evS_F {F : Nat} {v : List UInt8 → Rat} {V : List UInt8 → Int} (hv : ∀ n, v n = V n) : ∀ l : List (List UInt8 × Rat), (∀ x ∈ l, x.2.den ∣ F) → evS 0 l v * (F : Nat) = ((sumI (fun q => (q * (F : Nat)).num) V l : Int) : Rat)
  | [], _ => by show (0 : Rat) * _ = ((0 : Int) : Rat); rw [Rat.zero_mul]; rfl
  | x :: l, h => by
    rw [evS_cons, Rat.add_mul, evS_F hv l fun y hy => h y (by simp [hy])];show _ = ((((x.2 * (F : Nat)).num * V x.1 + sumI (fun q => (q * (F : Nat)).num) V l : Int)) : Rat);rw [Rat.intCast_add, Rat.intCast_mul, int_of_dvd (h x (by simp)), hv]
    grind
/-- the coefficients that are not 0 -/
def mkD (φ : Rat → Int) : List (List UInt8 × Rat) → List (List UInt8 × Rat)
  | [] => []
  | x :: l => if φ x.2 = 0 then mkD φ l else (x.1, (φ x.2 : Rat)) :: mkD φ l
theorem mkD_mem {φ : Rat → Int} : ∀ {l : List (List UInt8 × Rat)} {y : List UInt8 × Rat}, y ∈ mkD φ l ↔ ∃ x ∈ l, φ x.2 ≠ 0 ∧ y = (x.1, (φ x.2 : Rat))
  | [], y => by simp [mkD]
  | x :: l, y => by
    unfold mkD;have ih := @mkD_mem φ l y
    by_cases h : φ x.2 = 0
    · rw [if_pos h, ih]
      constructor
      · rintro ⟨z, hz, h1⟩; exact ⟨z, by simp [hz], h1⟩
      · rintro ⟨z, hz, h1, h2⟩;rcases List.mem_cons.1 hz with rfl | hz
        · exact absurd h h1
        · exact ⟨z, hz, h1, h2⟩
    · rw [if_neg h, List.mem_cons, ih]
      constructor
      · rintro (rfl | ⟨z, hz, h1⟩)
        · exact ⟨x, by simp, h, rfl⟩
        · exact ⟨z, by simp [hz], h1⟩
      · rintro ⟨z, hz, h1, h2⟩;rcases List.mem_cons.1 hz with rfl | hz
        · exact .inl h2
        · exact .inr ⟨z, hz, h1, h2⟩
theorem mkD_can {φ : Rat → Int} {l : List (List UInt8 × Rat)} (h : Can ltB l) : Can ltB (mkD φ l) := by
  induction l with
  | nil => trivial
  | cons x l ih =>
    obtain ⟨n, q⟩ := x;unfold mkD
    split
    · exact ih h.2.2
    · rename_i h0
      refine ⟨fun e => h0 (Rat.intCast_inj.1 (show ((φ q : Int) : Rat) = ((0 : Int) : Rat) from e)), fun y hy => ?_, ih h.2.2⟩;obtain ⟨z, hz, -, rfl⟩ := mkD_mem.1 hy;exact h.2.1 z hz
theorem mkD_cof {φ : Rat → Int} (h0 : φ 0 = 0) {l : List (List UInt8 × Rat)} (h : Can ltB l) (n : List UInt8) : cof (mkD φ l) n = ((φ (cof l n) : Int) : Rat) := by
  induction l with
  | nil => show (0 : Rat) = ((φ 0 : Int) : Rat); rw [h0]; rfl
  | cons x l ih =>
    obtain ⟨m, q⟩ := x;unfold mkD;rw [cof_cons]
    by_cases hm : m = n
    · subst hm;rw [if_pos rfl];have hn : cof l m = 0 := cof_none fun x hx e => ord_ltB.irr m (by have := h.2.1 x hx; rw [e] at this; exact this)
      split
      · rename_i hz
        rw [ih h.2.2, hn, h0];exact congrArg _ hz.symm
      · rw [cof_cons, if_pos rfl]
    · rw [if_neg hm]
      split
      · exact ih h.2.2
      · rw [cof_cons, if_neg hm]; exact ih h.2.2
theorem mkD_ev {φ : Rat → Int} {v : List UInt8 → Rat} {V : List UInt8 → Int} (hv : ∀ n, v n = V n) : ∀ l : List (List UInt8 × Rat), evS 0 (mkD φ l) v = ((sumI φ V l : Int) : Rat)
  | [] => rfl
  | x :: l => by
    have ih := mkD_ev (φ := φ) hv l;show evS 0 (if φ x.2 = 0 then mkD φ l else (x.1, (φ x.2 : Rat)) :: mkD φ l) v = ((φ x.2 * V x.1 + sumI φ V l : Int) : Rat)
    split
    · rename_i h
      rw [ih, h, Int.zero_mul, Int.zero_add]
    · rw [evS_cons, ih, Rat.intCast_add, Rat.intCast_mul, hv]
theorem den_div (a z : Int) (hz : 0 < z) : (((a : Int) : Rat) / ((z : Int) : Rat)).den = 1 ↔ z ∣ a := by
  have hz0 : ((z : Int) : Rat) ≠ 0 := fun e => by
    have := Rat.intCast_inj.1 (show ((z : Int) : Rat) = ((0 : Int) : Rat) from e)
    omega
  constructor
  · intro h;have h1 := rat_int h;generalize (((a : Int) : Rat) / ((z : Int) : Rat)).num = k at *
    have h2 : ((a : Int) : Rat) = ((z * k : Int) : Rat) := by
      rw [Rat.intCast_mul, ← h1, Rat.mul_comm];exact (Rat.div_mul_cancel hz0).symm
    exact ⟨k, Rat.intCast_inj.1 h2⟩
  · rintro ⟨k, rfl⟩
    have : ((z * k : Int) : Rat) / ((z : Int) : Rat) = ((k : Int) : Rat) := by
      rw [Rat.intCast_mul, Rat.mul_comm, Rat.mul_div_cancel hz0]
    rw [this]; exact Rat.den_intCast _
theorem gcdL_dvd {F : Nat} {zM : Int} : ∀ (l : List (List UInt8 × Rat)) (g : Nat), gcdL F zM g l ∣ g ∧ (∀ x ∈ l, gcdL F zM g l ∣ (rsD F zM x.2).natAbs) ∧ ∀ m, m ∣ g → (∀ x ∈ l, m ∣ (rsD F zM x.2).natAbs) → m ∣ gcdL F zM g l
  | [], g => ⟨Nat.dvd_refl g, fun x hx => (List.not_mem_nil hx).elim, fun m h _ => h⟩
  | x :: l, g => by
    obtain ⟨h1, h2, h3⟩ := gcdL_dvd (F := F) (zM := zM) l (Nat.gcd g (rsD F zM x.2).natAbs);refine ⟨Nat.dvd_trans h1 (Nat.gcd_dvd_left _ _), fun y hy => ?_, fun m hm h => h3 m (Nat.dvd_gcd hm (h x (by simp))) fun y hy => h y (by simp [hy])⟩;rcases List.mem_cons.1 hy with rfl | hy
    · exact Nat.dvd_trans h1 (Nat.gcd_dvd_right _ _)
    · exact h2 y hy
theorem cof_self {l : List (List UInt8 × Rat)} (hc : Can ltB l) {x : List UInt8 × Rat} (hx : x ∈ l) : cof l x.1 = x.2 := by
  induction l with
  | nil => exact (List.not_mem_nil hx).elim
  | cons y l ih =>
    obtain ⟨n, p⟩ := y;rw [cof_cons];rcases List.mem_cons.1 hx with h | h
    · rw [h, if_pos rfl]
    · rw [if_neg (fun e => ord_ltB.irr n (by have := hc.2.1 x h; rw [← e] at this; exact this))];exact ih hc.2.2 h
theorem cof_mem_ne {l : List (List UInt8 × Rat)} {n : List UInt8} (h : cof l n ≠ 0) : ∃ y ∈ l, y.1 = n := by
  induction l with
  | nil => exact absurd rfl h
  | cons y l ih =>
    obtain ⟨m, p⟩ := y;rw [cof_cons] at h
    by_cases hm : m = n
    · exact ⟨(m, p), by simp, hm⟩
    · rw [if_neg hm] at h;obtain ⟨z, hz, e⟩ := ih h;exact ⟨z, by simp [hz], e⟩
theorem tx_ne_nil (q : Rat) : TX q ≠ ⟨#[]⟩ := fun h => by
  have h1 := tx_ratF q;rw [h] at h1;have h2 : (none : Option Rat) = some q := (show ratF [] = none from rfl).symm.trans h1;cases h2
theorem tx_inj' {p q : Rat} (h : TX p = TX q) : p = q := by
  have h1 := tx_ratF p;rw [h, tx_ratF q] at h1;injection h1 with h1;exact h1.symm
/-- what a divisibility's normal form is made of -/
structure DN (m : Int) (p : Rat) (l : List (List UInt8 × Rat)) (F : Nat) (zM g : Int) : Prop where
  fp : 0 < F
  dp : p.den ∣ F
  dl : ∀ x ∈ l, x.2.den ∣ F
  hz : zM = m * F
  zp : 0 < zM
  gp : 0 < g
  gz : g ∣ zM
  gl : ∀ x ∈ l, g ∣ rsD F zM x.2
  gu : ∀ n : Nat, (n : Int) ∣ zM → (∀ x ∈ l, (n : Int) ∣ rsD F zM x.2) → (n : Int) ∣ g
theorem DN.of {m : Int} (hm : 1 ≤ m) {p : Rat} {l : List (List UInt8 × Rat)} {F : Nat} {zM g : Int} (hF : F = denL p.den l) (hz : zM = m * F) (hg : g = gcdL F zM zM.natAbs l) : DN m p l F zM g := by
  obtain ⟨d1, d2⟩ := denL_dvd l p.den;have hp : 0 < F := by rw [hF]; exact denL_pos _ _ (Nat.pos_of_ne_zero p.den_nz)
  have hzp : 0 < zM := by rw [hz]; exact Int.mul_pos (by omega) (by omega)
  obtain ⟨g1, g2, g3⟩ := gcdL_dvd (F := F) (zM := zM) l zM.natAbs;have hgp := gcdL_pos (F := F) (zM := zM) l zM.natAbs (by omega);refine ⟨hp, by rw [hF]; exact d1, fun x hx => by rw [hF]; exact d2 x hx, hz, hzp, by rw [hg]; omega, ?_, fun x hx => ?_, fun n h1 h2 => ?_⟩
  · rw [hg]; exact Int.ofNat_dvd_left.2 g1
  · rw [hg]; exact Int.ofNat_dvd_left.2 (g2 x hx)
  · rw [hg]; exact Int.natCast_dvd_natCast.2 (g3 n (Int.ofNat_dvd_left.1 h1) fun x hx => Int.ofNat_dvd_left.1 (h2 x hx))
theorem sub_rs (F : Nat) (zM : Int) (q : Rat) : zM ∣ (q * (F : Nat)).num - rsD F zM q := by
  unfold rsD;rw [Int.emod_def];exact ⟨(q * (F : Nat)).num / zM, by omega⟩
/-- the value is a multiple of the modulus just if .. -/
theorem DN.holds {m : Int} {p : Rat} {l : List (List UInt8 × Rat)} {F : Nat} {zM g : Int} (h : DN m p l F zM g) (hm : 1 ≤ m) {v : List UInt8 → Rat} {V : List UInt8 → Int} (hv : ∀ n, v n = V n) : (evS p l v / (m : Rat)).den = 1 ↔ zM ∣ rsD F zM p + sumI (rsD F zM) V l := by
  have hF0 : ((F : Nat) : Rat) ≠ 0 := fun e => by
    have := Rat.natCast_inj.1 (show ((F : Nat) : Rat) = ((0 : Nat) : Rat) from e);have := h.fp; omega
  have hm0 : ((m : Int) : Rat) ≠ 0 := fun e => by
    have := Rat.intCast_inj.1 (show ((m : Int) : Rat) = ((0 : Int) : Rat) from e)
    omega
  have e1 : evS p l v * (F : Nat) = (((p * (F : Nat)).num + sumI (fun q => (q * (F : Nat)).num) V l : Int) : Rat) := by
    rw [evS_add, Rat.add_mul, evS_F hv l h.dl, Rat.intCast_add, int_of_dvd h.dp]
  have e2 : evS p l v / (m : Rat) = (((p * (F : Nat)).num + sumI (fun q => (q * (F : Nat)).num) V l : Int) : Rat) / ((zM : Int) : Rat) := by
    rw [← e1, h.hz, Rat.intCast_mul, Rat.intCast_natCast, Rat.div_def, Rat.div_def, Rat.inv_mul_rev];have := Rat.mul_inv_cancel _ hF0
    grind
  rw [e2, den_div _ _ h.zp];have h1 := sub_rs F zM p;have h2 := sumI_sub (φ := fun q => (q * (F : Nat)).num) (ψ := rsD F zM) V l fun x _ => sub_rs F zM x.2
  have h3 := Int.dvd_add h1 h2;have e3 : (p * (F : Nat)).num - rsD F zM p + (sumI (fun q => (q * (F : Nat)).num) V l - sumI (rsD F zM) V l) = ((p * (F : Nat)).num + sumI (fun q => (q * (F : Nat)).num) V l) - (rsD F zM p + sumI (rsD F zM) V l) := by omega
  rw [e3] at h3
  constructor
  · intro h4;have := Int.dvd_sub h4 h3;rwa [Int.sub_sub_self] at this
  · intro h4;have := Int.dvd_add h3 h4;rwa [Int.sub_add_cancel] at this
theorem DN.sum {m : Int} {p : Rat} {l : List (List UInt8 × Rat)} {F : Nat} {zM g : Int} (h : DN m p l F zM g) (V : List UInt8 → Int) : sumI (rsD F zM) V l = g * sumI (fun q => rsD F zM q / g) V l :=
  sumI_mul V l fun x hx => (Int.mul_ediv_cancel' (h.gl x hx)).symm
/-- the normal form of a divisibility is true for the same values -/
theorem DF_true {r m : Int} {p : Rat} {l : List (List UInt8 × Rat)} {r' : Int} {c' : Rat} {f' : List UInt8 → Rat} {tm' : ByteArray} (hn : DF r m p l r' c' f' tm') (hr : r = 4 ∨ r = 5) (hm : 1 ≤ m) (hc : Can ltB l) {rs : List (List UInt8 × Rat)} (hrs : Can ltB rs) (hf : ∀ n, cof rs n = f' n) {v : List UInt8 → Rat} (hv : ∀ n, (v n).den = 1) {D : Nat} (hD : ∀ F : Nat, F = denL p.den l → DS D ((m * F : Int) : Rat)) :
    ∃ M', tm' = TXo M' ∧ ConM r' 2 D M' ∧ holdF r' M' (evS c' rs v) = holdF r (some m) (evS p l v) := by
  obtain ⟨F, zM, g, hF, hz, hg, hn⟩ := hn;have h := DN.of hm hF hz hg;have hV : ∀ n, v n = (((v n).num : Int) : Rat) := fun n => rat_int (hv n)
  have hh := h.holds hm hV;have hs := h.sum fun n => (v n).num
  have hnil : (f' = fun _ => 0) → rs = [] := fun e => nf_nil hrs fun n => by rw [hf n, e]
  rw [hs] at hh;show ∃ M', tm' = TXo M' ∧ ConM r' 2 D M' ∧ holdF r' M' (evS c' rs v) = (decide ((evS p l v / (m : Rat)).den = 1) == (r == 4));rcases hn with ⟨a1, rfl, rfl, rfl, rfl⟩ | ⟨a1, a2, rfl, rfl, rfl, rfl⟩ | ⟨a1, a2, rfl, rfl, rfl, rfl⟩
  · refine ⟨none, rfl, ⟨.inl rfl, ?_⟩, ?_⟩
    · rcases hr with rfl | rfl
      · exact .inr (.inl rfl)
      · exact .inl rfl
    · rw [hnil rfl]
      have hno : ¬ (evS p l v / (m : Rat)).den = 1 := fun e => by
        have h1 := Int.dvd_trans h.gz (hh.1 e);have h2 := Int.dvd_sub h1 (Int.dvd_mul_right g (sumI (fun q => rsD F zM q / g) (fun n => (v n).num) l));rw [Int.add_sub_cancel] at h2;exact a1 (Int.emod_eq_zero_of_dvd h2)
      rw [decide_eq_false hno];rcases hr with rfl | rfl
      · show cmpF 2 0 = _;rw [cmpF_lt]; rfl
      · show cmpF 1 0 = _;rw [cmpF_le]; rfl
  · refine ⟨none, rfl, ⟨.inl rfl, ?_⟩, ?_⟩
    · rcases hr with rfl | rfl
      · exact .inl rfl
      · exact .inr (.inl rfl)
    · rw [hnil rfl]
      have hzg : zM = g := by
        have := Int.mul_ediv_cancel' h.gz;rw [a2] at this; omega
      have hyes : (evS p l v / (m : Rat)).den = 1 := hh.2 (by
        have h1 := Int.dvd_of_emod_eq_zero a1;have h2 := Int.dvd_add h1 (Int.dvd_mul_right g (sumI (fun q => rsD F zM q / g) (fun n => (v n).num) l));rw [← hzg] at h2 ⊢
        exact h2)
      rw [decide_eq_true hyes];rcases hr with rfl | rfl
      · show cmpF 1 0 = _;rw [cmpF_le]; rfl
      · show cmpF 2 0 = _;rw [cmpF_lt]; rfl
  · have hm' : 0 < zM / g := by
      have h1 := Int.mul_ediv_cancel' h.gz;refine Int.not_le.1 fun h2 => ?_
      have h3 := Int.mul_nonpos_of_nonneg_of_nonpos (Int.le_of_lt h.gp) h2;have := h.zp; omega
    refine ⟨some (zM / g), rfl, ⟨rfl, hr, by omega, ?_⟩, ?_⟩
    · have h1 := hD F hF;rw [← hz] at h1;have h2 := h1.1;rw [Rat.num_intCast] at h2;refine DS.int ?_;have h3 : zM / g ≤ zM := Int.ediv_le_self _ (Int.le_of_lt h.zp)
      omega
    · show (decide ((evS _ rs v / ((zM / g : Int) : Rat)).den = 1) == (r' == 4)) = _
      congr 1
      refine decide_eq_decide.2 ?_;rw [hh]
      have hrs' : rs = mkD (fun q => rsD F zM q / g) l := can_ext ord_ltB _ _ hrs (mkD_can hc) fun n => by
        rw [hf n, mkD_cof (by show rsD F zM 0 / g = 0; rw [rsD_zero, Int.zero_ediv]) hc]
      rw [hrs', evS_add, mkD_ev hV, ← Rat.intCast_add, den_div _ _ hm'];have h1 := Int.mul_ediv_cancel' h.gz;have h2 := Int.mul_ediv_cancel' (Int.dvd_of_emod_eq_zero a1)
      have h3 : rsD F zM p + g * sumI (fun q => rsD F zM q / g) (fun n => (v n).num) l = g * (rsD F zM p / g + sumI (fun q => rsD F zM q / g) (fun n => (v n).num) l) := by
        rw [Int.mul_add, h2]
      rw [h3]
      constructor
      · intro h4;have := Int.mul_dvd_mul_left g h4;rwa [h1] at this
      · intro h4;have h5 : g * (zM / g) ∣ g * (rsD F zM p / g + sumI (fun q => rsD F zM q / g) (fun n => (v n).num) l) := by rw [h1]; exact h4
        have h6 : g ≠ 0 := by have := h.gp; omega
        exact Int.dvd_of_mul_dvd_mul_left h6 h5
theorem denL_one : ∀ l : List (List UInt8 × Rat), (∀ x ∈ l, x.2.den = 1) → denL 1 l = 1
  | [], _ => rfl
  | x :: l, h => by
    show denL (Nat.lcm 1 x.2.den) l = 1;rw [h x (by simp)];exact denL_one l fun y hy => h y (by simp [hy])
theorem DN.lt {m : Int} {p : Rat} {l : List (List UInt8 × Rat)} {F : Nat} {zM g : Int} (h : DN m p l F zM g) (q : Rat) : 0 ≤ rsD F zM q / g ∧ rsD F zM q / g < zM / g := by
  have h1 := Int.emod_nonneg (q * ((F : Nat) : Rat)).num (show zM ≠ 0 by have := h.zp; omega);have h2 := Int.emod_lt_of_pos (q * ((F : Nat) : Rat)).num h.zp;refine ⟨Int.ediv_nonneg h1 (Int.le_of_lt h.gp), Int.ediv_lt_of_lt_mul h.gp ?_⟩;rw [Int.mul_comm, Int.mul_ediv_cancel' h.gz];exact h2
theorem rs_same {z w : Int} (h0 : 0 ≤ z) (h1 : z < w) : rsD 1 w (z : Rat) = z := by
  unfold rsD;rw [show ((1 : Nat) : Rat) = 1 from rfl, Rat.mul_one, Rat.num_intCast];exact Int.emod_eq_of_lt h0 h1
/-- a normal form of a divisibility is its own normal form -/
theorem DF_idem {r m : Int} {p : Rat} {l : List (List UInt8 × Rat)} {r' : Int} {c' : Rat} {f' : List UInt8 → Rat} {tm' : ByteArray} (hn : DF r m p l r' c' f' tm') (hr : r = 4 ∨ r = 5) (hm : 1 ≤ m) (hc : Can ltB l) {rs : List (List UInt8 × Rat)} (hrs : Can ltB rs) (hf : ∀ n, cof rs n = f' n) {M' : Option Int} (hM : tm' = TXo M') {r2 : Int} {c2 : Rat} {f2 : List UInt8 → Rat} {t2 : ByteArray}
    (h2 : match M' with | none => NF r' 2 c' rs r2 c2 f2 ∧ t2 = ⟨#[]⟩ | some m' => DF r' m' c' rs r2 c2 f2 t2) : r2 = r' ∧ c2 = c' ∧ (∀ n, f2 n = cof rs n) ∧ t2 = tm' := by
  obtain ⟨F, zM, g, hF, hz, hg, hn⟩ := hn;have h := DN.of hm hF hz hg;have hnil : (f' = fun _ => 0) → rs = [] := fun e => nf_nil hrs fun n => by rw [hf n, e]
  have knil : ∀ b : Bool, tm' = ⟨#[]⟩ → rs = [] → r' = (if b then 1 else 2) → c' = 0 → r2 = r' ∧ c2 = c' ∧ (∀ n, f2 n = cof rs n) ∧ t2 = tm' := by
    intro b ht hrs hr' hc';subst hrs hr' hc';cases M' with
    | some m' =>
      exact absurd (show TX (m' : Rat) = ⟨#[]⟩ from hM.symm.trans ht) (tx_ne_nil _)
    | none =>
      obtain ⟨h3, rfl⟩ := h2;rcases h3 with ⟨-, rfl, rfl, rfl⟩ | ⟨h, -⟩
      · refine ⟨?_, rfl, fun _ => rfl, ht.symm⟩;cases b
        · show (if cmpF 2 0 = true then (1 : Int) else 2) = 2;rw [cmpF_lt]; rfl
        · show (if cmpF 1 0 = true then (1 : Int) else 2) = 1;rw [cmpF_le]; rfl
      · exact absurd rfl h
  rcases hn with ⟨a1, e1, e2, e3, e4⟩ | ⟨a1, a2, e1, e2, e3, e4⟩ | ⟨a1, a2, rfl, rfl, rfl, rfl⟩
  · rcases hr with rfl | rfl
    · exact knil false e4 (hnil e3) e1 e2
    · exact knil true e4 (hnil e3) e1 e2
  · rcases hr with rfl | rfl
    · exact knil true e4 (hnil e3) e1 e2
    · exact knil false e4 (hnil e3) e1 e2
  · have hg1 := Int.mul_ediv_cancel' h.gz
    have hm' : 0 < zM / g := by
      refine Int.not_le.1 fun h2 => ?_
      have h3 := Int.mul_nonpos_of_nonneg_of_nonpos (Int.le_of_lt h.gp) h2;have := h.zp; omega
    cases M' with
    | none =>
      exact absurd (show TX ((zM / g : Int) : Rat) = ⟨#[]⟩ from hM) (tx_ne_nil _)
    | some m' =>
      obtain rfl : zM / g = m' := Rat.intCast_inj.1 (tx_inj' hM);obtain ⟨F', zM', g', hF', hz', hg', h3⟩ := h2
      have hd : ∀ x ∈ rs, x.2.den = 1 := fun x hx => by
        have h4 : cof rs x.1 = x.2 := cof_self hrs hx;rw [← h4, hf]; exact Rat.den_intCast _
      have hF1 : F' = 1 := by rw [hF', Rat.den_intCast]; exact denL_one rs hd
      subst hF1;have hzz : zM' = zM / g := by rw [hz']; show zM / g * ((1 : Nat) : Int) = _; omega
      subst hzz;have hN := DN.of (m := zM / g) (by omega) hF' hz' hg';have hrsame : ∀ q, rsD 1 (zM / g) ((rsD F zM q / g : Int) : Rat) = rsD F zM q / g := fun q => rs_same (h.lt q).1 (h.lt q).2
      have hone : g' = 1 := by
        have h4 : ((g'.natAbs * g.natAbs : Nat) : Int) ∣ g := h.gu _ (by
          have h5 := Int.mul_dvd_mul_left g hN.gz;rw [hg1] at h5;rw [show ((g'.natAbs * g.natAbs : Nat) : Int) = g * g' by rw [Int.natCast_mul, Int.natAbs_of_nonneg (Int.le_of_lt hN.gp), Int.natAbs_of_nonneg (Int.le_of_lt h.gp), Int.mul_comm]]
          exact h5) fun x hx => by
          rw [show ((g'.natAbs * g.natAbs : Nat) : Int) = g * g' by rw [Int.natCast_mul, Int.natAbs_of_nonneg (Int.le_of_lt hN.gp), Int.natAbs_of_nonneg (Int.le_of_lt h.gp), Int.mul_comm]];have h6 := Int.mul_ediv_cancel' (h.gl x hx)
          have h7 : g' ∣ rsD F zM x.2 / g := by
            have h8 : cof rs x.1 = ((rsD F zM x.2 / g : Int) : Rat) := by
              rw [hf];show ((rsD F zM (cof l x.1) / g : Int) : Rat) = _;rw [cof_self hc hx]
            by_cases h9 : rsD F zM x.2 / g = 0
            · rw [h9]; exact Int.dvd_zero g'
            · obtain ⟨y, hy, hyx⟩ := cof_mem_ne (l := rs) (n := x.1) (by rw [h8]; intro e; exact h9 (Rat.intCast_inj.1 (show ((rsD F zM x.2 / g : Int) : Rat) = ((0 : Int) : Rat) from e)));have h10 := hN.gl y hy;rw [show y.2 = ((rsD F zM x.2 / g : Int) : Rat) by rw [← h8, ← hyx]; exact (cof_self hrs hy).symm, hrsame] at h10;exact h10
          have h11 := Int.mul_dvd_mul_left g h7;rwa [h6] at h11
        rw [show ((g'.natAbs * g.natAbs : Nat) : Int) = g * g' by rw [Int.natCast_mul, Int.natAbs_of_nonneg (Int.le_of_lt hN.gp), Int.natAbs_of_nonneg (Int.le_of_lt h.gp), Int.mul_comm]] at h4;have h5 : g * g' ∣ g * 1 := by rw [Int.mul_one]; exact h4
        have h6 := Int.dvd_of_mul_dvd_mul_left (by have := h.gp; omega) h5;exact Int.eq_one_of_dvd_one (Int.le_of_lt hN.gp) h6
      subst hone;rcases h3 with ⟨b1, -⟩ | ⟨-, b2, -⟩ | ⟨-, -, rfl, rfl, rfl, rfl⟩
      · exact absurd (Int.emod_one _) b1
      · rw [Int.ediv_one] at b2; exact absurd b2 a2
      · refine ⟨rfl, by rw [hrsame, Int.ediv_one], fun n => ?_, by rw [Int.ediv_one]⟩;show ((rsD 1 (zM / g) (cof rs n) / 1 : Int) : Rat) = cof rs n;rw [hf n, hrsame, Int.ediv_one]
end Go.Proofs.YtgfoljpjdmeooaaGreatDoor
/- The normal form's meaning: the walk of the statement. -/
namespace Go.Proofs.YtgfoljpjdmeooaaGreatDoor
open Go.RowKit Nmx

theorem TXo_inj {M M' : Option Int} (h : TXo M = TXo M') : M = M' := by
  cases M with
  | none =>
    cases M' with
    | none => rfl
    | some m => exact absurd h.symm (tx_ne_nil _)
  | some m =>
    cases M' with
    | none => exact absurd h (tx_ne_nil _)
    | some m' => rw [Rat.intCast_inj.1 (tx_inj' h)]
/-- what the statement wants of a normal form -/
structure NOut (r s : Int) (q : Rat) (cs : List (List UInt8 × Rat)) (M : Option Int) (r' : Int) (c' : Rat) (rs : List (List UInt8 × Rat)) (tm' : ByteArray) (M' : Option Int) (B : Nat) : Prop where
  tm : tm' = TXo M'
  ok : ConM r' s B M'
  b1 : B ≤ 265
  b2 : M' ≠ none → B ≤ 158
  dc : DS B c'
  df : ∀ n, DS B (cof rs n)
  kp : rs ≠ [] → M' = none → kP rs = 1
  tr : ∀ v : List UInt8 → Rat, (s = 2 → ∀ n, (v n).den = 1) → holdF r' M' (evS c' rs v) = holdF r M (evS q cs v)
  id : ∀ r2 c2 f2 t2, NN r' s c' rs M' r2 c2 f2 t2 → r2 = r' ∧ c2 = c' ∧ (∀ n, f2 n = cof rs n) ∧ t2 = tm'
theorem cof_ds {d : Nat} {l : List (List UInt8 × Rat)} (h : ∀ x ∈ l, DS d x.2) (n : List UInt8) : DS d (cof l n) := by
  induction l with
  | nil => exact DS.zero d
  | cons y l ih =>
    obtain ⟨m, p⟩ := y;rw [cof_cons]
    split
    · exact h (m, p) (by simp)
    · exact ih fun x hx => h x (by simp [hx])
theorem NN_out {r s : Int} {q : Rat} {cs : List (List UInt8 × Rat)} {M : Option Int} {r' : Int} {c' : Rat} {f' : List UInt8 → Rat} {tm' : ByteArray} (hn : NN r s q cs M r' c' f' tm') (hk : ConM r s 26 M) (hg : Good 26 cs) (dq : DS 26 q) {rs : List (List UInt8 × Rat)} (hrs : Can ltB rs) (hf : ∀ n, cof rs n = f' n) : ∃ M' B, NOut r s q cs M r' c' rs tm' M' B := by
  cases M with
  | none =>
    obtain ⟨hn, rfl⟩ := hn;obtain ⟨hs, hr⟩ := hk
    have hr' : r' = 1 ∨ r' = 2 ∨ r' = 3 := by
      rcases hn with ⟨-, rfl, -⟩ | ⟨-, ⟨-, rfl, -⟩ | ⟨-, -, rfl, -⟩ | ⟨-, -, rfl, -⟩ | ⟨-, -, -, rfl, -⟩ | ⟨-, -, -, rfl, -⟩⟩
      · split
        · exact .inl rfl
        · exact .inr (.inl rfl)
      · exact hr
      · exact .inl rfl
      · exact .inl rfl
      · exact .inr (.inr rfl)
      · exact .inr (.inl rfl)
    have hkd : cs ≠ [] → DS 236 (kF r cs) := fun hne => by
      have h1 := kP_ds hne (can_nz hg.can) hg.ds (can_len hg.can hg.nm);rcases kF_abs r cs with h | ⟨-, -, h⟩
      · rw [h]; exact h1
      · rw [h]; exact h1.neg
    have hkc : cs ≠ [] → ∀ n, DS 265 (kF r cs * cof cs n) := fun hne n => ((hkd hne).mul (cof_ds hg.ds n)).mono (by omega)
    have hkp : cs ≠ [] → DS 262 (kF r cs * q) := fun hne => (hkd hne).mul dq
    have hkp1 : (∀ n, cof rs n = kF r cs * cof cs n) → cs ≠ [] → kP rs = 1 := fun h hne => by
      have hk := kF_ne (r := r) hg.can hne;have hsn : scl (kF r cs) cs ≠ [] := fun e => hne (List.map_eq_nil_iff.1 e)
      rw [nf_scl hk hg.can hrs h];exact prim_uniq (kP_prim hsn (can_nz (scl_can' hk hg.can))) (prim_one hg.can hne)
    refine ⟨none, 265, rfl, ⟨hs, hr'⟩, by omega, fun h => absurd rfl h, ?_, fun n => ?_, fun hne _ => ?_, fun v hv => NF_true hn hr hg.can hrs hf hv, fun r2 c2 f2 t2 h => ?_⟩
    · rcases hn with ⟨-, -, rfl, -⟩ | ⟨hne, ⟨-, -, rfl, -⟩ | ⟨-, -, -, rfl, -⟩ | ⟨-, -, -, rfl, -⟩ | ⟨-, -, -, -, rfl, -⟩ | ⟨-, -, -, -, rfl, -⟩⟩
      · exact DS.zero _
      · exact (hkp hne).mono (by omega)
      · exact (ds_ce (hkp hne)).mono (by omega)
      · rw [Rat.intCast_add];exact ((hkp hne).fl.add (DS.one (d := 1) (by omega))).mono (by omega)
      · exact (hkp hne).mono (by omega)
      · exact DS.zero _
    · rw [hf n];rcases hn with ⟨-, -, -, rfl⟩ | ⟨hne, ⟨-, -, -, rfl⟩ | ⟨-, -, -, -, rfl⟩ | ⟨-, -, -, -, rfl⟩ | ⟨-, -, -, -, -, rfl⟩ | ⟨-, -, -, -, -, rfl⟩⟩
      · exact DS.zero _
      · exact hkc hne n
      · exact hkc hne n
      · exact hkc hne n
      · exact hkc hne n
      · exact DS.zero _
    · rcases hn with ⟨-, -, -, rfl⟩ | ⟨hnc, ⟨-, -, -, rfl⟩ | ⟨-, -, -, -, rfl⟩ | ⟨-, -, -, -, rfl⟩ | ⟨-, -, -, -, -, rfl⟩ | ⟨-, -, -, -, -, rfl⟩⟩
      · exact absurd (nf_nil hrs hf) hne
      · exact hkp1 hf hnc
      · exact hkp1 hf hnc
      · exact hkp1 hf hnc
      · exact hkp1 hf hnc
      · exact absurd (nf_nil hrs hf) hne
    · obtain ⟨h1, h2, h3⟩ := NF_idem hn hg.can hrs hf h.1;exact ⟨h1, h2, h3, h.2⟩
  | some m =>
    obtain ⟨rfl, hr, hm, hmd⟩ := hk
    have hD : ∀ F : Nat, F = denL q.den cs → DS 157 ((m * F : Int) : Rat) := fun F hF => by
      have h1 := denL_le cs hg.ds q.den;have h2 : cs.length ≤ 4 := can_len hg.can hg.nm;have h3 : 10 ^ (26 * cs.length) ≤ 10 ^ (26 * 4) := Nat.pow_le_pow_right (by omega) (Nat.mul_le_mul_left _ h2)
      have h4 : F ≤ 10 ^ 26 * 10 ^ (26 * 4) := by
        rw [hF];exact Nat.le_trans h1 (Nat.mul_le_mul dq.2 h3)
      rw [← Nat.pow_add] at h4
      have h5 : DS 131 (((F : Int)) : Rat) := DS.int (by
        rw [Int.natAbs_natCast]
        exact Nat.lt_of_le_of_lt h4 (Nat.pow_lt_pow_right (by omega) (by omega)))
      have h6 := hmd.mul h5;rw [← Rat.intCast_mul] at h6;exact h6
    obtain ⟨M', h1, h2, -⟩ := DF_true (v := fun _ => 0) hn hr hm hg.can hrs hf (fun _ => rfl) hD;have hn' : DF r m q cs r' c' f' tm' := hn;obtain ⟨F, zM, g, hF, hz, hgg, hn3⟩ := hn';have hN := DN.of hm hF hz hgg;have hdz : DS 157 ((zM : Int) : Rat) := by rw [hz]; exact hD F hF
    refine ⟨M', 157, h1, h2, by omega, fun _ => by omega, ?_, fun n => ?_, fun hne hM => ?_, fun v hv => ?_, fun r2 c2 f2 t2 h => ?_⟩
    · rcases hn3 with ⟨-, -, rfl, -⟩ | ⟨-, -, -, rfl, -⟩ | ⟨-, -, -, rfl, -⟩
      · exact DS.zero _
      · exact DS.zero _
      · exact rs_div hN.zp hN.gp _ hdz
    · rw [hf n];rcases hn3 with ⟨-, -, -, rfl, -⟩ | ⟨-, -, -, -, rfl, -⟩ | ⟨-, -, -, -, rfl, -⟩
      · exact DS.zero _
      · exact DS.zero _
      · exact rs_div hN.zp hN.gp _ hdz
    · exfalso
      rcases hn3 with ⟨-, -, -, e, -⟩ | ⟨-, -, -, -, e, -⟩ | ⟨-, -, -, -, -, e⟩
      · exact hne (nf_nil hrs fun n => by rw [hf n, e])
      · exact hne (nf_nil hrs fun n => by rw [hf n, e])
      · rw [hM] at h1;exact tx_ne_nil _ (e.symm.trans h1)
    · obtain ⟨M2, g1, -, g3⟩ := DF_true (v := v) hn hr hm hg.can hrs hf (hv rfl) hD;rw [TXo_inj (h1.symm.trans g1)];exact g3
    · refine DF_idem hn hr hm hg.can hrs hf h1 ?_;cases M' with
      | none => exact h
      | some m' => exact h
theorem env_val {es : List (List UInt8 × Rat)} (h : es.map (·.1) = nm4) {y : List UInt8 × Rat} (hy : y ∈ es) {n : List UInt8} (hn : y.1 = n) : cof es n = y.2 := by
  have hnd : (es.map (·.1)).Nodup := by rw [h]; decide
  clear h
  induction es with
  | nil => exact (List.not_mem_nil hy).elim
  | cons x l ih =>
    obtain ⟨m, p⟩ := x;rw [List.map_cons, List.nodup_cons] at hnd;rw [cof_cons];rcases List.mem_cons.1 hy with rfl | h
    · rw [if_pos hn]
    · rw [if_neg (fun e => hnd.1 (by rw [e, ← hn]; exact List.mem_map.2 ⟨y, h, rfl⟩))];exact ih h hnd.2
theorem LV.tight2 {w : World} {v : Value} {s : Int} {D B : Nat} {c : Rat} {rs : List (List UInt8 × Rat)} (h : LV w v s D c rs) (hc : DS B c) (hf : ∀ n, DS B (cof rs n)) : LV w v s B c rs := by
  obtain ⟨ao, g, off, cap, h1, h2, h3, h4, -⟩ := h;exact ⟨ao, g, off, cap, h1, h2, h3, ⟨h4.can, h4.nm, fun x hx => by rw [← cof_self h4.can hx]; exact hf x.1⟩, hc⟩
/-- the statement's own 'holds' -/
theorem holdsL {d : Nat} {w : World} {r s : Int} {a1 : Option Addr} {n1 c1 : Nat} {t1 : ByteArray} {p : Rat} {cs : List (List UInt8 × Rat)} {M : Option Int} {ve : Value} {es : List (List UInt8 × Rat)} (h : LV w (.agg #[.int .i64 s, .slice a1 n1 c1, .string t1]) s d p cs) (hk : ConM r s d M) (he : EV w ve s es) (hd : d ≤ 400) (hE : Env w) :
    Calls Tryz.prog 34 #[.agg #[.int .i64 r, .int .i64 s, .slice a1 n1 c1, .string t1, .string (TXo M)], ve] w fun e w' => e = .returned (.tuple #[.bool (holdF r M (evS p cs (cof es))), .bool true]) ∧ Below w.heap.size w w' := by
  have hho := fun W (hW : Below w.heap.size w W) => holds_any (h.far hW) hk (he.far hW) hd (hE.far hW)
  generalize holdF r M (evS p cs (cof es)) = b at *;generalize TXo M = tm at *;have HHO := Lib.hid hho;have HA := Lib.hid (heap_alloc_new w (.cells #[.int .i64 r, .int .i64 s, .slice a1 n1 c1, .string t1, .string tm] 39));have HBL := Lib.hid (alloc_far w (.cells #[.int .i64 r, .int .i64 s, .slice a1 n1 c1, .string t1, .string tm] 39));clear hho h hk he hE
  go_enter Tryz.func34, Tryz.ntmps34
  go_wp2_with fail
  refine (HHO.out _ HBL.out).mono ?_;rintro e w1 ⟨rfl, hb⟩;replace HBL := Lib.hid (HBL.out.trans (hb.mono HBL.out.size));clear hb
  go_wp2
  go_ret2
  exact ⟨rfl, HBL.out⟩
theorem CX.grown {w w' : World} {S : Nat} {r s : Int} {ao : Option Addr} {n cap : Nat} {tx tm : ByteArray} {d : Nat} {c : Rat} {cs : List (List UInt8 × Rat)} {C : Nat} {bo : Option Addr} {m cp : Nat} (h : CX w S r s ao n cap tx tm d c cs) (hc : Ch C bo m cp w) (hS : S < C) (hg : w.grownBy w' (some C)) : CX w' S r s ao n cap tx tm d c cs :=
  ⟨(hg.block _ (lt_of_heap h.h) (fun e => by have := Option.some.inj e; omega)).trans h.h, h.l.grown hc hg⟩
section
set_option maxRecDepth 100000
set_option maxHeartbeats 8000000
theorem normalMeaning_any (al : Option Addr) (ll cl : Nat) (am : Option Addr) (lm cm : Nat) (w : World) (hE : Env w) (hl : ArgI w al ll cl) (hm : ArgI w am lm cm) :
    Calls Tryz.prog 7 #[.slice al ll cl, .slice am lm cm] w fun e w' => e = .returned (.bool true) ∧ Below w.heap.size w w' := by
  have HE := Lib.hid hE;have HAl := Lib.hid hl;have HAm := Lib.hid hm;clear hE hl hm
  go_enter Tryz.func7, Tryz.ntmps7
  go_wp2_with fail
  refine (new_any al ll cl _ HAl.out).mono ?_;rintro e w1 ⟨rfl, rfl⟩
  go_wp2_with fail
  refine (constraint_any _ _ _ _ _ (ch_newL HAl.out)).mono ?_;rintro e w1 ⟨r, s, cs, q, bo, m, cp, tx, tm, rfl, lc, hok, -, hg⟩;have HB := Lib.hid (new_far hg);have LC := Lib.hid lc;have HOK := Lib.hid hok;clear hg lc hok HAl
  go_wp2_with fail
  have HXc := Lib.hid (CX.new (r := r) (tm := tm) LC.out);replace HB := Lib.hid (HB.out.trans ((alloc_far w1 (.cells #[.int .i64 r, .int .i64 s, .slice bo m cp, .string tx, .string tm] 39)).mono HB.out.size));clear LC;generalize w1.alloc (.cells #[.int .i64 r, .int .i64 s, .slice bo m cp, .string tx, .string tm] 39) = w2 at *;generalize w1.heap.size = S at *;refine add_region [[], [0], [], [2], [2, 3], [0, 1, 2, 3, 4], [0, 1, 2, 3, 4, 5]] (fun W => CX W S r s bo m cp tx tm 26 q cs ∧ Below w.heap.size w W) (fun _ => True) ?_;apply a_con
  · intro x; go_simp; done
  · intro x W R hW hF hR;clear hF;unfold addAt
    go_simp
    simp only [addUpon];exact hR _ (Below.refl _ _)
  simp only [Act.put, List.setIfInBounds_toArray, List.set_cons_zero, List.set_cons_succ];refine a_opq (fun u W => ∃ C', u = .pointer (some ⟨C', 0, none⟩) ∧ Ch C' am (min lm 400) cm W ∧ w.heap.size ≤ C' ∧ S < C') (fun _ _ _ h hb => let ⟨C', h1, h2, h3, h4⟩ := h; ⟨C', h1, h2.call hb, h3, h4⟩) ?_ ?_ ?_
  · intro x; go_simp; done
  · intro x W R hW hF hR;clear hF;unfold addAt
    go_simp
    simp only [addUpon];refine (new_any am lm cm W (HAm.out.far hW.2)).mono ?_;rintro e w' ⟨rfl, rfl⟩;exact ⟨_, rfl, hR _ _ ⟨W.heap.size, rfl, ch_newL (HAm.out.far hW.2), hW.2.size, lt_of_heap hW.1.h⟩ (alloc_far _ _)⟩
  simp only [Act.put, List.setIfInBounds_toArray, List.set_cons_zero, List.set_cons_succ, List.length_cons, List.length_nil, Nat.zero_add]
  iterate 3
    apply a_con
    · intro x; go_simp; done
    · intro x W R hW hF hR;have c0 := heap_cell hW.1.h 0;have c1 := heap_cell hW.1.h 1;clear hF;unfold addAt
      go_simp
      simp only [addUpon];exact hR _ (Below.refl _ _)
    simp only [Act.put, List.setIfInBounds_toArray, List.set_cons_zero, List.set_cons_succ]
  refine a_wrt (fun x W => ∃ es, EV W (x 5) s es ∧ CX W S r s bo m cp tx tm 26 q cs ∧ Below w.heap.size w W) (fun _ _ _ h hb => let ⟨es, h1, h⟩ := h; ⟨es, h1.far hb, ⟨h.1.far hb, h.2.trans (hb.mono h.2.size)⟩⟩) (fun x x' w hx hT => by have e := hx 5 (.inl rfl); rw [e] at hT; exact hT) ?_ ?_ ?_
  · intro x; go_simp; done
  · intro x W R hW hF hD hR;have hu := hF.2.2.2.1.2 rfl rfl rfl;simp only [AK.fact] at hu;obtain ⟨C', hx, hch, hC1, hC2⟩ := hu;simp only [hx];clear hF hD;unfold addAt
    go_simp
    simp only [addUpon];refine (linearEnv_any C' am (min lm 400) cm s W hch).mono ?_;rintro e w' ⟨es, v, rfl, hev, hc, hg⟩;refine ⟨_, rfl, hR _ _ ⟨es, ?_, hW.1.grown hch hC2 hg, hW.2.grown hg hW.2.size (fun k e => by cases e; exact hC1)⟩ trivial hg.size⟩;show EV w' (updX x 5 v 5) s es;rw [updX_self];exact hev
  simp only [Act.put, List.setIfInBounds_toArray, List.set_cons_zero, List.set_cons_succ];refine a_freX (fun x => x 6 = x 5) (fun x x' hx h => by rw [← hx 6 (.inl rfl), ← hx 5 (.inr (List.contains_iff_mem.1 rfl))]; exact h) ?_ ?_ ?_
  · intro x; go_simp; done
  · intro x W R hW hF hR;clear hF;unfold addAt
    go_simp
    simp only [addUpon];refine hR _ _ ?_ (Below.refl _ _);show updX x 6 _ 6 = updX x 6 _ 5;rw [updX_self, updX_ne (i := 6) (j := 5) _ _ (by decide)]
  simp only [Act.put, List.setIfInBounds_toArray, List.set_cons_zero, List.set_cons_succ, List.length_cons, List.length_nil, Nat.zero_add, Nat.reduceAdd];refine a_nil (by kernel_rfl) (by kernel_rfl) (by kernel_rfl) (fun _ _ h hb => ⟨h.1.far hb, h.2.trans (hb.mono h.2.size)⟩) (fun _ _ _ _ => trivial) (fun _ _ => trivial) (⟨HXc.out.far (Below.refl _ _).drew, HB.out.trans ((Below.refl _ _).drew.mono HB.out.size)⟩) ?_;intro x W hE hW hF hD;clear hD;obtain ⟨es, hev, hxc, hbl⟩ := hF.2.1.2 rfl;have hx := hF.1.1;simp only [AK.free] at hx;simp only [hx];have HEV := Lib.hid hev;have HXc2 := Lib.hid hxc;have HB2 := Lib.hid hbl;generalize x 5 = ve at *;clear hF hW hE hx hev hxc hbl;obtain ⟨M, hM, hk⟩ := con_mod HOK.out;have HK := Lib.hid hk
  have hint : s = 2 → ∀ n, (cof es n).den = 1 := fun hs n => by
    obtain ⟨_, _, _, _, _, hg⟩ := HEV.out
    by_cases h0 : cof es n = 0
    · rw [h0]; rfl
    · obtain ⟨y, hy, hyn⟩ := cof_mem_ne h0;have : cof es n = y.2 := env_val hg.nm hy hyn;rw [this];exact (hg.ok y hy).2 hs
  have HINT := Lib.hid hint;have HNM1 : Hid (∀ W, Below w.heap.size w W → LV W (.agg #[.int .i64 s, .slice bo m cp, .string tx]) s 26 q cs → Calls Tryz.prog 22 #[.agg #[.int .i64 r, .int .i64 s, .slice bo m cp, .string tx, .string tm]] W fun e w' => ∃ r' c' f' tm', NN r s q cs M r' c' f' tm' ∧ GetsNN r' s tm' (27 * 26 + 8) c' f' W e w') := Lib.hid (fun W hW hl => by rw [hM]; exact normal_any hl hk (by decide) (HE.out.far hW));obtain ⟨bb, hbb⟩ : ∃ b, holdF r M (evS q cs (cof es)) = b := ⟨_, rfl⟩
  have HBB := Lib.hid hbb;have HH1 : Hid (∀ W, Below w.heap.size w W → LV W (.agg #[.int .i64 s, .slice bo m cp, .string tx]) s 26 q cs → EV W ve s es → Calls Tryz.prog 34 #[.agg #[.int .i64 r, .int .i64 s, .slice bo m cp, .string tx, .string tm], ve] W fun e w' => e = .returned (.tuple #[.bool bb, .bool true]) ∧ Below W.heap.size W w') := Lib.hid (fun W hW hl hev => by rw [hM, ← hbb]; exact holdsL hl hk hev (by decide) (HE.out.far hW));clear hM hbb hint HOK hk;have c0 := heap_cell HXc2.out.h 0;have c1 := heap_cell HXc2.out.h 1;have c2 := heap_cell HXc2.out.h 2;have c3 := heap_cell HXc2.out.h 3;have c4 := heap_cell HXc2.out.h 4;have hlc := lt_of_heap HXc2.out.h
  go_wp2_with fail
  refine (HNM1.out _ HB2.out HXc2.out.l).mono ?_;rintro e w3 ⟨r1, k1, f1, m1, hn1, rs1, a1, n1, p1, x1, rfl, hl1, hf1, hb⟩;obtain ⟨M1, B, hno⟩ := NN_out hn1 HK.out HXc2.out.l.good.1 HXc2.out.l.good.2 hl1.good.1.can hf1;have hl1' := hl1.tight2 hno.dc hno.df;have HNO := Lib.hid hno;replace HXc2 := Lib.hid (HXc2.out.far hb);replace HEV := Lib.hid (HEV.out.far hb);replace HB2 := Lib.hid (HB2.out.trans (hb.mono HB2.out.size));have L1 := Lib.hid hl1'
  have HNM2 : Hid (∀ W, Below w.heap.size w W → LV W (.agg #[.int .i64 s, .slice a1 n1 p1, .string x1]) s B k1 rs1 → Calls Tryz.prog 22 #[.agg #[.int .i64 r1, .int .i64 s, .slice a1 n1 p1, .string x1, .string m1]] W fun e w' => ∃ r' c' f' tm', NN r1 s k1 rs1 M1 r' c' f' tm' ∧ GetsNN r' s tm' (3 * 531 + 2) c' f' W e w') := Lib.hid (fun W hW hl => by
    rw [HNO.out.tm]
    exact normal_anyK hl HNO.out.ok (fun hne hM => by rw [HNO.out.kp hne hM]; exact DS.one (by decide)) (by have := HNO.out.b1; omega) (by decide) HNO.out.b2 (HE.out.far hW))
  have HH2 : Hid (∀ W, Below w.heap.size w W → LV W (.agg #[.int .i64 s, .slice a1 n1 p1, .string x1]) s B k1 rs1 → EV W ve s es → Calls Tryz.prog 34 #[.agg #[.int .i64 r1, .int .i64 s, .slice a1 n1 p1, .string x1, .string m1], ve] W fun e w' => e = .returned (.tuple #[.bool bb, .bool true]) ∧ Below W.heap.size W w') := Lib.hid (fun W hW hl hev => by
    rw [HNO.out.tm, ← HBB.out, ← HNO.out.tr (cof es) HINT.out]
    exact holdsL hl HNO.out.ok hev (by have := HNO.out.b1; omega) (HE.out.far hW))
  clear hb hn1 hf1 hl1 hl1' hno c0 c1 c2 c3 c4 hlc HNM1
  go_wp2_with fail
  have hal := alloc_far w3 (.cells #[.int .i64 r1, .int .i64 s, .slice a1 n1 p1, .string x1, .string m1] 39);replace HXc2 := Lib.hid (HXc2.out.far hal);replace HEV := Lib.hid (HEV.out.far hal);replace HB2 := Lib.hid (HB2.out.trans (hal.mono HB2.out.size));have HX1 := Lib.hid (CX.new (r := r1) (tm := m1) L1.out);clear hal L1;generalize w3.alloc (.cells #[.int .i64 r1, .int .i64 s, .slice a1 n1 p1, .string x1, .string m1] 39) = w4 at *;generalize w3.heap.size = S1 at *;refine (HNM2.out _ HB2.out HX1.out.l).mono ?_;rintro e w5 ⟨r2, k2, f2, m2, hn2, rs2, a2, n2, p2, x2, rfl, hl2, hf2, hb⟩;obtain ⟨e1, e2, hff, e4⟩ := HNO.out.id _ _ _ _ hn2;obtain rfl : r1 = r2 := e1.symm;obtain rfl : k1 = k2 := e2.symm;obtain rfl : m1 = m2 := e4.symm;replace HXc2 := Lib.hid (HXc2.out.far hb);replace HX1 := Lib.hid (HX1.out.far hb);replace HEV := Lib.hid (HEV.out.far hb);replace HB2 := Lib.hid (HB2.out.trans (hb.mono HB2.out.size));have HFF : Hid (∀ n, cof rs1 n = cof rs2 n) := Lib.hid (fun n => ((hf2 n).trans (hff n)).symm);have L2 := Lib.hid hl2;clear hb hn2 hf2 hl2 hff e1 e2 e4 HNM2;have c0 := heap_cell HXc2.out.h 0;have c1 := heap_cell HXc2.out.h 1;have c2 := heap_cell HXc2.out.h 2;have c3 := heap_cell HXc2.out.h 3;have c4 := heap_cell HXc2.out.h 4;have hlc := lt_of_heap HXc2.out.h
  go_wp2_with fail
  have hal := alloc_far w5 (.cells #[.int .i64 r1, .int .i64 s, .slice a2 n2 p2, .string x2, .string m1] 39);replace HXc2 := Lib.hid (HXc2.out.far hal);replace HX1 := Lib.hid (HX1.out.far hal);replace HEV := Lib.hid (HEV.out.far hal);replace HB2 := Lib.hid (HB2.out.trans (hal.mono HB2.out.size));have HX2 := Lib.hid (CX.new (r := r1) (tm := m1) L2.out);clear hal L2 c0 c1 c2 c3 c4 hlc;generalize w5.alloc (.cells #[.int .i64 r1, .int .i64 s, .slice a2 n2 p2, .string x2, .string m1] 39) = w6 at *;generalize w5.heap.size = S2 at *;refine (HH1.out _ HB2.out HXc2.out.l HEV.out).mono ?_;rintro e w7 ⟨rfl, hb⟩;replace HX1 := Lib.hid (HX1.out.far hb);replace HX2 := Lib.hid (HX2.out.far hb);replace HEV := Lib.hid (HEV.out.far hb);replace HB2 := Lib.hid (HB2.out.trans (hb.mono HB2.out.size));clear hb HXc2 HH1;have c0 := heap_cell HX1.out.h 0;have c1 := heap_cell HX1.out.h 1;have c2 := heap_cell HX1.out.h 2;have c3 := heap_cell HX1.out.h 3;have c4 := heap_cell HX1.out.h 4;have hlc := lt_of_heap HX1.out.h
  go_wp2_with fail
  refine (HH2.out _ HB2.out HX1.out.l HEV.out).mono ?_;rintro e w8 ⟨rfl, hb⟩;replace HX1 := Lib.hid (HX1.out.far hb);replace HX2 := Lib.hid (HX2.out.far hb);replace HB2 := Lib.hid (HB2.out.trans (hb.mono HB2.out.size));clear hb c0 c1 c2 c3 c4 hlc HH2 HEV;have c0 := heap_cell HX1.out.h 0;have c1 := heap_cell HX1.out.h 1;have c2 := heap_cell HX1.out.h 2;have c3 := heap_cell HX1.out.h 3;have c4 := heap_cell HX1.out.h 4;have hlc := lt_of_heap HX1.out.h;have d0 := heap_cell HX2.out.h 0;have d1 := heap_cell HX2.out.h 1;have d2 := heap_cell HX2.out.h 2;have d3 := heap_cell HX2.out.h 3;have d4 := heap_cell HX2.out.h 4;have hld := lt_of_heap HX2.out.h;have hsm := sameC (r := r1) (tm := m1) HX1.out.l HX2.out.l HFF.out;have HSM := Lib.hid hsm;clear hsm;have hbb : (bb == bb) = true := by cases bb <;> rfl
  go_wp2_with fail
  refine HSM.out.mono ?_;rintro e w9 ⟨rfl, hb⟩;replace HB2 := Lib.hid (HB2.out.trans (hb.mono HB2.out.size));clear hb HSM c0 c1 c2 c3 c4 hlc d0 d1 d2 d3 d4 hld
  go_wp2_with fail
  refine (awakeL _ (HE.out.far HB2.out)).mono ?_;rintro e w10 ⟨rfl, hb⟩;replace HB2 := Lib.hid (HB2.out.trans (hb.mono HB2.out.size));clear hb
  go_wp2
  go_ret
  exact ⟨rfl, HB2.out⟩
end
end Go.Proofs.YtgfoljpjdmeooaaGreatDoor

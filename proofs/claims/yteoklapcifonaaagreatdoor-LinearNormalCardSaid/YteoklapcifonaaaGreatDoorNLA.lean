/- Linear expressions in plain words: the order of names, lists of coefficients, what 'combine' does. -/
import Derived.Test.YteoklapcifonaaaGreatDoorNNA
import Derived.Lib.Bytealg
namespace Go.Proofs.YteoklapcifonaaaGreatDoor
open Nmx
open Go.Lib (compareBytes)
/-- what an order of names has to keep -/
structure Ord3 {K : Type} (lt : K → K → Prop) : Prop where
 irr : ∀ a, ¬ lt a a
 tr : ∀ {a b c}, lt a b → lt b c → lt a c
 tri : ∀ a b, lt a b ∨ a = b ∨ lt b a
section
variable {K : Type} {lt : K → K → Prop}
/-- strictly ascending names, no coefficient is 0 -/
def Can (lt : K → K → Prop) : List (K × Rat) → Prop
 | [] => True
 | (n, p) :: l => p ≠ 0 ∧ (∀ x ∈ l, lt n x.1) ∧ Can lt l
theorem can_append {r s : List (K × Rat)} (hr : Can lt r) (hs : Can lt s) (h : ∀ x ∈ r, ∀ y ∈ s, lt x.1 y.1) : Can lt (r ++ s) := by
 induction r with
 | nil => exact hs
 | cons x r ih =>
   obtain ⟨m, p⟩ := x;refine ⟨hr.1, fun y hy => ?_, ih hr.2.2 fun x hx y hy => h x (by simp [hx]) y hy⟩;rcases List.mem_append.1 hy with h1 | h1
   · exact hr.2.1 y h1
   · exact h (m, p) (by simp) y h1
theorem lt_all (ho : Ord3 lt) {n : K} {b : List (K × Rat)} (hb : Can lt b) (h : ∀ y, b.head? = some y → lt n y.1) : ∀ y ∈ b, lt n y.1 := by
 cases b with
 | nil => exact fun y hy => (List.not_mem_nil hy).elim
 | cons x b =>
   intro y hy;have h1 := h x rfl;rcases List.mem_cons.1 hy with h2 | h2
   · rw [h2]; exact h1
   · exact ho.tr h1 (hb.2.1 y h2)
end
section
variable {K : Type} [DecidableEq K] {lt : K → K → Prop}
/-- the coefficient of a name -/
def cof (l : List (K × Rat)) (n : K) : Rat := match l with
 | [] => 0
 | (m, p) :: l => if m = n then p else cof l n
theorem aW (m : K) (p : Rat) (l : List (K × Rat)) (n : K) : cof ((m, p) :: l) n = if m = n then p else cof l n := rfl
theorem cof_none {l : List (K × Rat)} {n : K} (h : ∀ x ∈ l, x.1 ≠ n) : cof l n = 0 := by
 induction l with
 | nil => rfl
 | cons x l ih =>
   obtain ⟨m, p⟩ := x;rw [aW, if_neg (h (m, p) (by simp))];exact ih fun x hx => h x (by simp [hx])
theorem can_ext (ho : Ord3 lt) : ∀ a b : List (K × Rat), Can lt a → Can lt b → (∀ n, cof a n = cof b n) → a = b := by
 intro a
 induction a with
 | nil =>
   intro b _ hb h;cases b with
   | nil => rfl
   | cons y b =>
     obtain ⟨m, q⟩ := y;have := h m;rw [aW, if_pos rfl] at this;exact absurd this.symm hb.1
 | cons x a ih =>
   obtain ⟨n, p⟩ := x;intro b ha hb h;cases b with
   | nil =>
     have := h n;rw [aW, if_pos rfl] at this;exact absurd this ha.1
   | cons y b =>
     obtain ⟨m, q⟩ := y;have hne : ∀ {l : List (K × Rat)} {k : K}, (∀ x ∈ l, lt k x.1) → ∀ x ∈ l, x.1 ≠ k := fun h x hx e => ho.irr _ (by have := h x hx; rw [e] at this; exact this)
     have hnm : n = m := by
      rcases ho.tri n m with h1 | h1 | h1
      · exfalso
        have h2 := h n;rw [aW, if_pos rfl, aW, if_neg (fun e => ho.irr _ (by rw [e] at h1; exact h1)), cof_none (fun x hx e => ho.irr n (ho.tr h1 (by have := hb.2.1 x hx; rw [e] at this; exact this)))] at h2;exact ha.1 h2
      · exact h1
      · exfalso
        have h2 := h m;rw [aW, aW, if_pos rfl, if_neg (fun e => ho.irr _ (by rw [e] at h1; exact h1)), cof_none (fun x hx e => ho.irr m (ho.tr h1 (by have := ha.2.1 x hx; rw [e] at this; exact this)))] at h2;exact hb.1 h2.symm
     subst hnm
     have hpq : p = q := by
      have := h n;rwa [aW, aW, if_pos rfl, if_pos rfl] at this
     subst hpq
     rw [ih b ha.2.2 hb.2.2 fun k => by
      by_cases hk : n = k
      · subst hk;rw [cof_none (hne ha.2.1), cof_none (hne hb.2.1)]
      · have := h k
        rwa [aW, aW, if_neg hk, if_neg hk] at this]
theorem cof_append (ho : Ord3 lt) {r s : List (K × Rat)} (h : ∀ x ∈ r, ∀ y ∈ s, lt x.1 y.1) (n : K) : cof (r ++ s) n = cof r n + cof s n := by
 induction r with
 | nil => show cof s n = 0 + cof s n; grind
 | cons x r ih =>
   obtain ⟨m, p⟩ := x;rw [List.cons_append, aW, aW]
   by_cases hm : m = n
   · subst hm;rw [if_pos rfl, if_pos rfl, cof_none (l := s) (fun y hy e => ho.irr m (by have := h (m, p) (by simp) y hy; rw [e] at this; exact this))]
     grind
   · rw [if_neg hm, if_neg hm];exact ih fun x hx y hy => h x (by simp [hx]) y hy
/-- the way of 'combine': r is made, a' and b' are left -/
structure Cmb (lt : K → K → Prop) (k : Rat) (a b r a' b' : List (K × Rat)) : Prop where
 cr : Can lt r
 ca : Can lt a'
 cb : Can lt b'
 ra : ∀ x ∈ r, ∀ y ∈ a', lt x.1 y.1
 rb : ∀ x ∈ r, ∀ y ∈ b', lt x.1 y.1
 eq : ∀ n, cof r n + cof a' n + k * cof b' n = cof a n + k * cof b n
theorem Cmb.start {k : Rat} {a b : List (K × Rat)} (ha : Can lt a) (hb : Can lt b) : Cmb lt k a b [] a b :=
 ⟨trivial, ha, hb, fun x hx => (List.not_mem_nil hx).elim, fun x hx => (List.not_mem_nil hx).elim, fun n => by show (0 : Rat) + _ + _ = _; grind⟩
theorem Cmb.stop {k : Rat} {a b r : List (K × Rat)} (h : Cmb lt k a b r [] []) : Can lt r ∧ ∀ n, cof r n = cof a n + k * cof b n :=
 ⟨h.cr, fun n => by have := h.eq n; have e : ∀ n : K, cof ([] : List (K × Rat)) n = 0 := fun _ => rfl; rw [e] at this; grind⟩
theorem Cmb.put (ho : Ord3 lt) {k c : Rat} {a b r a1 b1 a2 b2 : List (K × Rat)} {n : K} (h : Cmb lt k a b r a1 b1) (hr : ∀ x ∈ r, lt x.1 n) (ca : Can lt a2) (cb : Can lt b2) (ha : ∀ y ∈ a2, lt n y.1) (hb : ∀ y ∈ b2, lt n y.1)
    (ra : ∀ x ∈ r, ∀ y ∈ a2, lt x.1 y.1) (rb : ∀ x ∈ r, ∀ y ∈ b2, lt x.1 y.1) (hq : ∀ m, (if n = m then c else 0) + cof a2 m + k * cof b2 m = cof a1 m + k * cof b1 m) :
    Cmb lt k a b (if c = 0 then r else r ++ [(n, c)]) a2 b2 := by
 by_cases h0 : c = 0
 · rw [if_pos h0];refine ⟨h.cr, ca, cb, ra, rb, fun m => ?_⟩;have e1 := hq m;have e2 := h.eq m;rw [h0] at e1;have e3 : (if n = m then (0 : Rat) else 0) = 0 := by split <;> rfl
   rw [e3] at e1
   grind
 · rw [if_neg h0];have hra : ∀ x ∈ r, ∀ y ∈ [(n, c)], lt x.1 y.1 := fun x hx y hy => by rw [List.mem_singleton.1 hy]; exact hr x hx
   refine ⟨can_append h.cr ⟨h0, fun x hx => (List.not_mem_nil hx).elim, trivial⟩ hra, ca, cb, fun x hx y hy => ?_, fun x hx y hy => ?_, fun m => ?_⟩
   · rcases List.mem_append.1 hx with h1 | h1
     · exact ra x h1 y hy
     · rw [List.mem_singleton.1 h1]; exact ha y hy
   · rcases List.mem_append.1 hx with h1 | h1
     · exact rb x h1 y hy
     · rw [List.mem_singleton.1 h1]; exact hb y hy
   · rw [cof_append ho hra];have e1 := hq m;have e2 := h.eq m;have e3 : cof [(n, c)] m = if n = m then c else 0 := rfl
     rw [e3]
     grind
theorem Cmb.left (ho : Ord3 lt) {k p : Rat} {a b r a2 b1 : List (K × Rat)} {n : K} (h : Cmb lt k a b r ((n, p) :: a2) b1) (hb : ∀ y, b1.head? = some y → lt n y.1) : Cmb lt k a b (if p = 0 then r else r ++ [(n, p)]) a2 b1 := by
 have hbn := lt_all ho h.cb hb;refine h.put ho (fun x hx => h.ra x hx (n, p) (by simp)) h.ca.2.2 h.cb h.ca.2.1 hbn (fun x hx y hy => h.ra x hx y (by simp [hy])) h.rb fun m => ?_
 rw [aW]
 by_cases hm : n = m
 · subst hm;rw [if_pos rfl, if_pos rfl, cof_none (l := a2) (fun y hy e => ho.irr n (by have := h.ca.2.1 y hy; rw [e] at this; exact this))]
   grind
 · rw [if_neg hm, if_neg hm]; grind
theorem Cmb.right (ho : Ord3 lt) {k q : Rat} {a b r a1 b2 : List (K × Rat)} {n : K} (h : Cmb lt k a b r a1 ((n, q) :: b2)) (ha : ∀ y, a1.head? = some y → lt n y.1) : Cmb lt k a b (if k * q = 0 then r else r ++ [(n, k * q)]) a1 b2 := by
 have han := lt_all ho h.ca ha;refine h.put ho (fun x hx => h.rb x hx (n, q) (by simp)) h.ca h.cb.2.2 han h.cb.2.1 h.ra (fun x hx y hy => h.rb x hx y (by simp [hy])) fun m => ?_
 rw [aW]
 by_cases hm : n = m
 · subst hm;rw [if_pos rfl, if_pos rfl, cof_none (l := b2) (fun y hy e => ho.irr n (by have := h.cb.2.1 y hy; rw [e] at this; exact this))]
   grind
 · rw [if_neg hm, if_neg hm]; grind
theorem Cmb.both (ho : Ord3 lt) {k p q : Rat} {a b r a2 b2 : List (K × Rat)} {n : K} (h : Cmb lt k a b r ((n, p) :: a2) ((n, q) :: b2)) : Cmb lt k a b (if p + k * q = 0 then r else r ++ [(n, p + k * q)]) a2 b2 := by
 refine h.put ho (fun x hx => h.ra x hx (n, p) (by simp)) h.ca.2.2 h.cb.2.2 h.ca.2.1 h.cb.2.1 (fun x hx y hy => h.ra x hx y (by simp [hy])) (fun x hx y hy => h.rb x hx y (by simp [hy])) fun m => ?_
 rw [aW, aW]
 by_cases hm : n = m
 · subst hm;rw [if_pos rfl, if_pos rfl, if_pos rfl, cof_none (l := a2) (fun y hy e => ho.irr n (by have := h.ca.2.1 y hy; rw [e] at this; exact this)), cof_none (l := b2) (fun y hy e => ho.irr n (by have := h.cb.2.1 y hy; rw [e] at this; exact this))]
   grind
 · rw [if_neg hm, if_neg hm, if_neg hm]; grind
end
theorem cmpB_cases : ∀ a b : List UInt8, (compareBytes a b = -1 ∧ compareBytes b a = 1 ∧ a ≠ b) ∨ (compareBytes a b = 0 ∧ a = b) ∨ (compareBytes a b = 1 ∧ compareBytes b a = -1 ∧ a ≠ b)
 | [], [] => by simp [compareBytes]
 | [], _ :: _ => by simp [compareBytes]
 | _ :: _, [] => by simp [compareBytes]
 | x :: a, y :: b => by
   have ih := cmpB_cases a b;unfold compareBytes
   by_cases h1 : x < y
   · have h2 : ¬ y < x := fun h => absurd (UInt8.lt_trans h1 h) (UInt8.lt_irrefl x)
     rw [if_pos h1, if_neg h2, if_pos h1];exact .inl ⟨rfl, rfl, fun e => by injection e with e1 _; subst e1; exact UInt8.lt_irrefl _ h1⟩
   · by_cases h2 : y < x
     · rw [if_neg h1, if_pos h2, if_pos h2];exact .inr (.inr ⟨rfl, rfl, fun e => by injection e with e1 _; subst e1; exact UInt8.lt_irrefl _ h2⟩)
     · rw [if_neg h1, if_neg h2, if_neg h2, if_neg h1];have hxy : x = y := UInt8.le_antisymm (UInt8.not_lt.1 h2) (UInt8.not_lt.1 h1);subst hxy;rcases ih with ⟨p, q, r⟩ | ⟨p, q⟩ | ⟨p, q, r⟩
       · exact .inl ⟨p, q, fun e => r (by injection e)⟩
       · exact .inr (.inl ⟨p, by rw [q]⟩)
       · exact .inr (.inr ⟨p, q, fun e => r (by injection e)⟩)
theorem cmpB_trans : ∀ a b c : List UInt8, compareBytes a b = -1 → compareBytes b c = -1 → compareBytes a c = -1
 | [], [], c, h, _ => by simp [compareBytes] at h
 | _ :: _, [], c, h, _ => by simp [compareBytes] at h
 | [], _ :: _, [], _, h => by simp [compareBytes] at h
 | [], _ :: _, _ :: _, _, _ => rfl
 | _ :: _, _ :: _, [], _, h => by simp [compareBytes] at h
 | x :: a, y :: b, z :: c, h1, h2 => by
   have ih := cmpB_trans a b c;unfold compareBytes at h1 h2 ⊢
   split at h1
   · rename_i hxy
     split at h2
     · rename_i hyz
       rw [if_pos (UInt8.lt_trans hxy hyz)]
     · rename_i hyz
       split at h2
       · cases h2
       · rename_i hzy
         have : y = z := UInt8.le_antisymm (UInt8.not_lt.1 hzy) (UInt8.not_lt.1 hyz);subst this;rw [if_pos hxy]
   · rename_i hxy
     split at h1
     · cases h1
     · rename_i hyx
       have : x = y := UInt8.le_antisymm (UInt8.not_lt.1 hyx) (UInt8.not_lt.1 hxy);subst this
       split at h2
       · rename_i hyz; rw [if_pos hyz]
       · rename_i hyz
         split at h2
         · cases h2
         · rename_i hzy
           rw [if_neg hyz, if_neg hzy];exact ih h1 h2
def ltB (a b : List UInt8) : Prop := compareBytes a b = -1
instance (a b : List UInt8) : Decidable (ltB a b) := inferInstanceAs (Decidable (compareBytes a b = -1))
theorem ord_ltB : Ord3 ltB where
 irr a h := by
  unfold ltB at h;rcases cmpB_cases a a with ⟨_, _, r⟩ | ⟨p, _⟩ | ⟨_, _, r⟩
  · exact r rfl
  · omega
  · exact r rfl
 tr h1 h2 := cmpB_trans _ _ _ h1 h2
 tri a b := by
  unfold ltB;rcases cmpB_cases a b with ⟨p, _, _⟩ | ⟨_, q⟩ | ⟨_, p, _⟩
  · exact .inl p
  · exact .inr (.inl q)
  · exact .inr (.inr p)
end Go.Proofs.YteoklapcifonaaaGreatDoor

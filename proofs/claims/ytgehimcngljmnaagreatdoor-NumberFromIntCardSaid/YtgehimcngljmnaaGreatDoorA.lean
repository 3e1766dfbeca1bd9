/- Plain words about decimal digits: no program. -/
namespace Nmx

def dg (d : Nat) : UInt8 := UInt8.ofNat (48 + d)
def isD (c : UInt8) : Bool := decide (48 ≤ c.toNat) && decide (c.toNat ≤ 57)
def decN (n : Nat) : List UInt8 := if _h : n < 10 then [dg n] else decN (n / 10) ++ [dg (n % 10)]
termination_by n
decreasing_by omega
def dv (l : List UInt8) : Nat := l.foldl (fun a c => 10 * a + (c.toNat - 48)) 0

theorem isD_iff {c : UInt8} : isD c = true ↔ 48 ≤ c.toNat ∧ c.toNat ≤ 57 := by simp [isD]
theorem decN_small {n : Nat} (h : n < 10) : decN n = [dg n] := by rw [decN, dif_pos h]
theorem decN_big {n : Nat} (h : ¬ n < 10) : decN n = decN (n / 10) ++ [dg (n % 10)] := by rw [decN, dif_neg h]
theorem decN_ne (n : Nat) : decN n ≠ [] := by
  by_cases h : n < 10
  · rw [decN_small h]; simp
  · rw [decN_big h]; simp
theorem dg_toNat {d : Nat} (h : d < 10) : (dg d).toNat = 48 + d := by
  unfold dg; rw [UInt8.toNat_ofNat']; omega
theorem dg_isD {d : Nat} (h : d < 10) : isD (dg d) = true := by rw [isD_iff, dg_toNat h]; omega
theorem dg_of {c : UInt8} (h : isD c = true) : dg (c.toNat - 48) = c := by
  rw [isD_iff] at h
  apply UInt8.toNat_inj.1
  rw [dg_toNat (by omega)]; omega
theorem decN_digits (n : Nat) : (decN n).all isD = true := by
  induction n using Nat.strongRecOn with
  | _ n ih =>
    by_cases h : n < 10
    · rw [decN_small h]; simp only [List.all_cons, List.all_nil, Bool.and_true]; exact dg_isD h
    · rw [decN_big h, List.all_append, ih (n / 10) (by omega)]
      simp only [List.all_cons, List.all_nil, Bool.and_true, Bool.true_and]
      exact dg_isD (Nat.mod_lt _ (by omega))
theorem decN_head (n : Nat) (h : n ≠ 0) : (decN n).headD 0 ≠ 48 := by
  induction n using Nat.strongRecOn with
  | _ n ih =>
    by_cases h10 : n < 10
    · rw [decN_small h10, List.headD_cons]
      intro e
      have := congrArg UInt8.toNat e
      rw [dg_toNat h10] at this
      have h48 : (48 : UInt8).toNat = 48 := rfl
      omega
    · have := ih (n / 10) (by omega) (by omega)
      rw [decN_big h10]
      match hd : decN (n / 10), decN_ne (n / 10) with
      | c :: r, _ => rw [hd] at this; exact this

theorem snocRec {α : Type} {P : List α → Prop} (h0 : P []) (hs : ∀ l a, P l → P (l ++ [a])) (l : List α) : P l := by
  have h : ∀ l : List α, P l.reverse := by
    intro l
    induction l with
    | nil => exact h0
    | cons a r ih => rw [List.reverse_cons]; exact hs _ _ ih
  have := h l.reverse
  rwa [List.reverse_reverse] at this
theorem dv_nil : dv [] = 0 := rfl
theorem dv_snoc (l : List UInt8) (c : UInt8) : dv (l ++ [c]) = 10 * dv l + (c.toNat - 48) := by simp [dv, List.foldl_append]
theorem dv_one (c : UInt8) : dv [c] = c.toNat - 48 := by simp [dv]
theorem dv_append (a b : List UInt8) : dv (a ++ b) = dv a * 10 ^ b.length + dv b := by
  induction b using snocRec with
  | h0 => simp [dv_nil]
  | hs b c ih =>
    rw [← List.append_assoc, dv_snoc, ih, dv_snoc, List.length_append, List.length_singleton, Nat.pow_succ]
    generalize 10 ^ b.length = p
    grind
theorem dv_cons (c : UInt8) (l : List UInt8) : dv (c :: l) = (c.toNat - 48) * 10 ^ l.length + dv l := by
  have := dv_append [c] l
  rw [dv_one] at this; exact this
theorem dv_lt (l : List UInt8) (h : l.all isD = true) : dv l < 10 ^ l.length := by
  induction l with
  | nil => simp [dv_nil]
  | cons c l ih =>
    rw [List.all_cons, Bool.and_eq_true] at h
    have h1 := ih h.2
    have h2 := isD_iff.1 h.1
    rw [dv_cons, List.length_cons, Nat.pow_succ]
    have : (c.toNat - 48) * 10 ^ l.length ≤ 9 * 10 ^ l.length := Nat.mul_le_mul_right _ (by omega)
    omega
theorem dv_decN (n : Nat) : dv (decN n) = n := by
  induction n using Nat.strongRecOn with
  | _ n ih =>
    by_cases h : n < 10
    · rw [decN_small h, dv_one, dg_toNat h]; omega
    · rw [decN_big h, dv_snoc, ih (n / 10) (by omega), dg_toNat (Nat.mod_lt _ (by omega))]; omega
theorem decN_inj {a b : Nat} (h : decN a = decN b) : a = b := by rw [← dv_decN a, h, dv_decN]

/-- digits without leading zeros -/
def Canon (l : List UInt8) : Prop := l.all isD = true ∧ l ≠ [] ∧ (l = [48] ∨ l.headD 0 ≠ 48)
theorem decN_canon (n : Nat) : Canon (decN n) := by
  refine ⟨decN_digits n, decN_ne n, ?_⟩
  by_cases h : n = 0
  · subst h; left; rw [decN_small (by omega)]; rfl
  · exact .inr (decN_head n h)
theorem dv_pos {l : List UInt8} (h : l.all isD = true) (h0 : l ≠ []) (h1 : l.headD 0 ≠ 48) : 10 ^ (l.length - 1) ≤ dv l := by
  match l, h0 with
  | c :: r, _ =>
    rw [List.all_cons, Bool.and_eq_true] at h
    have h2 := isD_iff.1 h.1
    have h3 : c.toNat ≠ 48 := fun e => h1 (UInt8.toNat_inj.1 e)
    rw [dv_cons, List.length_cons, Nat.add_sub_cancel]
    have : 1 * 10 ^ r.length ≤ (c.toNat - 48) * 10 ^ r.length := Nat.mul_le_mul_right _ (by omega)
    omega
theorem canon_eq {l : List UInt8} (h : Canon l) : decN (dv l) = l := by
  induction l using snocRec with
  | h0 => exact absurd rfl h.2.1
  | hs i c ih =>
    obtain ⟨h1, _, h3⟩ := h
    rw [List.all_append, Bool.and_eq_true] at h1
    have hc : isD c = true := by simpa using h1.2
    have hc' := isD_iff.1 hc
    rw [dv_snoc]
    by_cases hi : i = []
    · subst hi
      rw [dv_nil, decN_small (by omega), show 10 * 0 + (c.toNat - 48) = c.toNat - 48 by omega, dg_of hc]; rfl
    · have hh : i.headD 0 ≠ 48 := by
        rcases h3 with h3 | h3
        · exfalso
          have := congrArg List.length h3
          simp at this
          exact hi this
        · match i, hi with
          | a :: r, _ => exact h3
      have hp := dv_pos h1.1 hi hh
      have hp1 : 0 < 10 ^ (i.length - 1) := Nat.pow_pos (by omega)
      rw [decN_big (by omega), show (10 * dv i + (c.toNat - 48)) / 10 = dv i by omega, ih ⟨h1.1, hi, .inr hh⟩, show (10 * dv i + (c.toNat - 48)) % 10 = c.toNat - 48 by omega, dg_of hc]
theorem decN_len (n : Nat) (h : n ≠ 0) : 10 ^ ((decN n).length - 1) ≤ n ∧ n < 10 ^ (decN n).length := by
  have h1 := dv_pos (decN_digits n) (decN_ne n) (decN_head n h)
  have h2 := dv_lt _ (decN_digits n)
  rw [dv_decN] at h1 h2
  exact ⟨h1, h2⟩
theorem decN_len_le {n k : Nat} (hk : 0 < k) (h : n < 10 ^ k) : (decN n).length ≤ k := by
  by_cases h0 : n = 0
  · subst h0; rw [decN_small (by omega)]; simp; omega
  · have h1 := (decN_len n h0).1
    have h2 : 10 ^ ((decN n).length - 1) < 10 ^ k := by omega
    have := (Nat.pow_lt_pow_iff_right (by omega : 1 < 10)).1 h2
    omega
theorem decN_len_pos (n : Nat) : 0 < (decN n).length := List.length_pos_iff.2 (decN_ne n)

/-- without leading zeros -/
def trimF : List UInt8 → List UInt8
  | [] => []
  | [c] => [c]
  | c :: d :: r => if c = 48 then trimF (d :: r) else c :: d :: r
theorem trimF_dv (l : List UInt8) : dv (trimF l) = dv l := by
  induction l with
  | nil => rfl
  | cons c r ih =>
    match r with
    | [] => rfl
    | d :: r =>
      unfold trimF
      split
      · rename_i h; subst h; rw [ih, dv_cons 48]; simp
      · rfl
theorem trimF_canon (l : List UInt8) (h : l.all isD = true) (h0 : l ≠ []) : Canon (trimF l) := by
  induction l with
  | nil => exact absurd rfl h0
  | cons c r ih =>
    match r with
    | [] =>
      unfold trimF
      refine ⟨h, h0, ?_⟩
      by_cases hc : c = 48
      · subst hc; exact .inl rfl
      · exact .inr hc
    | d :: r =>
      unfold trimF
      split
      · rw [List.all_cons, Bool.and_eq_true] at h; exact ih h.2 (by simp)
      · rename_i hc; exact ⟨h, h0, .inr hc⟩
theorem trimF_decN (l : List UInt8) (h : l.all isD = true) (h0 : l ≠ []) : trimF l = decN (dv l) := by
  rw [← canon_eq (trimF_canon l h h0), trimF_dv]
theorem trimF_canon_eq (l : List UInt8) (h : Canon l) : trimF l = l := by rw [trimF_decN l h.1 h.2.1, canon_eq h]

/-- the value of the last i digits -/
def lo (l : List UInt8) (i : Nat) : Nat := dv (l.drop (l.length - i))
/-- the digit that stands i from the end -/
def di (l : List UInt8) (i : Nat) : Nat := if h : i < l.length then (l[l.length - 1 - i]'(by omega)).toNat - 48 else 0
theorem lo_zero (l : List UInt8) : lo l 0 = 0 := by simp [lo, dv_nil]
theorem lo_all (l : List UInt8) (i : Nat) (h : l.length ≤ i) : lo l i = dv l := by
  unfold lo; rw [show l.length - i = 0 by omega]; rfl
theorem lo_succ (l : List UInt8) (i : Nat) : lo l (i + 1) = di l i * 10 ^ i + lo l i := by
  unfold lo di
  by_cases h : i < l.length
  · rw [dif_pos h, show l.length - i = l.length - (i + 1) + 1 by omega, List.drop_eq_getElem_cons (by omega), dv_cons]
    rw [List.length_drop, show l.length - (l.length - (i + 1) + 1) = i by omega]
    have e : l.length - (i + 1) = l.length - 1 - i := by omega
    simp only [e]
  · rw [dif_neg h, show l.length - (i + 1) = 0 by omega, show l.length - i = 0 by omega]; simp
theorem di_lt (l : List UInt8) (h : l.all isD = true) (i : Nat) : di l i < 10 := by
  unfold di
  split
  · rename_i hi
    have := isD_iff.1 (List.all_eq_true.1 h _ (List.getElem_mem (by omega : l.length - 1 - i < l.length)))
    omega
  · omega
theorem di_at (l : List UInt8) (i : Nat) (hi : i < l.length) : di l i = (l[l.length - 1 - i]'(by omega)).toNat - 48 := by unfold di; rw [dif_pos hi]
theorem di_out (l : List UInt8) (i : Nat) (hi : ¬ i < l.length) : di l i = 0 := by unfold di; rw [dif_neg hi]

/-- same number of digits: the order of texts is the order of numbers -/
theorem lex_lt (a b : List UInt8) (hl : a.length = b.length) (ha : a.all isD = true) (hb : b.all isD = true) : a < b ↔ dv a < dv b := by
  induction a generalizing b with
  | nil =>
    match b, hl with
    | [], _ => simp
  | cons c r ih =>
    match b, hl with
    | d :: s, hl =>
      rw [List.all_cons, Bool.and_eq_true] at ha hb
      rw [List.length_cons, List.length_cons] at hl
      have h1 := isD_iff.1 ha.1
      have h2 := isD_iff.1 hb.1
      have h3 := dv_lt r ha.2
      have h4 := dv_lt s hb.2
      have hl' : r.length = s.length := by omega
      have hih := ih s hl' ha.2 hb.2
      rw [List.cons_lt_cons_iff, dv_cons, dv_cons, hih, hl']
      rw [hl'] at h3
      generalize 10 ^ s.length = p at *
      rw [UInt8.lt_iff_toNat_lt]
      constructor
      · rintro (h | ⟨rfl, h⟩)
        · have : (c.toNat - 48 + 1) * p ≤ (d.toNat - 48) * p := Nat.mul_le_mul_right _ (by omega)
          rw [Nat.add_mul] at this
          omega
        · omega
      · intro h
        by_cases e : c.toNat = d.toNat
        · right
          have : c = d := UInt8.toNat_inj.1 e
          subst this
          exact ⟨rfl, by omega⟩
        · left
          by_cases g : c.toNat < d.toNat
          · exact g
          · exfalso
            have : (d.toNat - 48 + 1) * p ≤ (c.toNat - 48) * p := Nat.mul_le_mul_right _ (by omega)
            rw [Nat.add_mul] at this
            omega
theorem len_lt {m n : Nat} (h : (decN m).length < (decN n).length) : m < n := by
  have h1 := dv_lt _ (decN_digits m)
  rw [dv_decN] at h1
  by_cases hn : n = 0
  · subst hn
    have := decN_len_pos m
    rw [decN_small (n := 0) (by omega)] at h
    simp only [List.length_singleton] at h
    omega
  · have h2 := (decN_len n hn).1
    have h3 : 10 ^ (decN m).length ≤ 10 ^ ((decN n).length - 1) := Nat.pow_le_pow_right (by omega) (by omega)
    omega
/-- how the reference compares: by length, then as texts -/
theorem mag_lt (m n : Nat) : (decide ((decN m).length < (decN n).length) || (decide ((decN m).length = (decN n).length) && decide (decN m < decN n))) = decide (m < n) := by
  rw [Bool.eq_iff_iff]
  simp only [Bool.or_eq_true, Bool.and_eq_true, decide_eq_true_eq]
  have hlex : (decN m).length = (decN n).length → (decN m < decN n ↔ m < n) := fun hl => by
    have := lex_lt _ _ hl (decN_digits m) (decN_digits n)
    rwa [dv_decN, dv_decN] at this
  constructor
  · rintro (h | ⟨h1, h2⟩)
    · exact len_lt h
    · exact (hlex h1).1 h2
  · intro h
    by_cases h1 : (decN m).length < (decN n).length
    · exact .inl h1
    · by_cases h2 : (decN m).length = (decN n).length
      · exact .inr ⟨h2, (hlex h2).2 h⟩
      · have := len_lt (m := n) (n := m) (by omega)
        omega
end Nmx

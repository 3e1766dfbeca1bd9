/- Plain words about rows of words of 32 bits: no program. -/
import Derived.Test.YtapdbeaoakcjeaaGreatDoorRows
import Derived.WalkKit
import Derived.WalkSpells
import Derived.WalkLawsBesides
import Derived.Deep.QuietTactic
import Derived.BigQuiet
import Derived.Lib.Hide
namespace Nmx

/-- the number of values of a word -/
noncomputable def BB : Nat := (Classical.choice ⟨(⟨4294967296, rfl⟩ : { n : Nat // n = 4294967296 })⟩).1
theorem BB_eq : BB = 4294967296 := (Classical.choice ⟨(⟨4294967296, rfl⟩ : { n : Nat // n = 4294967296 })⟩).2
/-- what a row of words denotes, the least significant word first -/
noncomputable def wv : List Nat → Nat
  | [] => 0
  | x :: l => x + BB * wv l
def Ws (l : List Nat) : Prop := ∀ x ∈ l, x < BB

theorem wv_nil : wv [] = 0 := rfl
theorem wv_cons (x : Nat) (l : List Nat) : wv (x :: l) = x + BB * wv l := rfl
theorem wv_append (a b : List Nat) : wv (a ++ b) = wv a + BB ^ a.length * wv b := by
  induction a with
  | nil => simp [wv_nil]
  | cons x r ih =>
    rw [List.cons_append, wv_cons, wv_cons, ih, List.length_cons, Nat.pow_succ, Nat.mul_add, Nat.add_assoc]
    congr 2
    rw [← Nat.mul_assoc, Nat.mul_comm BB]
theorem wv_one (x : Nat) : wv [x] = x := by simp [wv_cons, wv_nil]
theorem wv_snoc (l : List Nat) (x : Nat) : wv (l ++ [x]) = wv l + BB ^ l.length * x := by rw [wv_append, wv_one]
theorem BB_pos : 0 < BB := by rw [BB_eq]; omega
theorem BBp_pos (n : Nat) : 0 < BB ^ n := Nat.pow_pos BB_pos
theorem Ws.cons {x : Nat} {l : List Nat} (hx : x < BB) (h : Ws l) : Ws (x :: l) := fun y hy => by
  rw [List.mem_cons] at hy;rcases hy with rfl | hy
  · exact hx
  · exact h y hy
theorem Ws.nil : Ws [] := fun _ h => by cases h
theorem Ws.append {a b : List Nat} (ha : Ws a) (hb : Ws b) : Ws (a ++ b) := fun y hy => by
  rw [List.mem_append] at hy;rcases hy with h | h
  · exact ha y h
  · exact hb y h
theorem Ws.left {a b : List Nat} (h : Ws (a ++ b)) : Ws a := fun y hy => h y (List.mem_append_left _ hy)
theorem Ws.right {a b : List Nat} (h : Ws (a ++ b)) : Ws b := fun y hy => h y (List.mem_append_right _ hy)
theorem Ws.take {l : List Nat} (h : Ws l) (n : Nat) : Ws (l.take n) := fun y hy => h y (List.mem_of_mem_take hy)
theorem Ws.drop {l : List Nat} (h : Ws l) (n : Nat) : Ws (l.drop n) := fun y hy => h y (List.mem_of_mem_drop hy)
theorem Ws.set {l : List Nat} (h : Ws l) (i : Nat) {x : Nat} (hx : x < BB) : Ws (l.set i x) := fun y hy => by
  rcases List.mem_or_eq_of_mem_set hy with h1 | h1
  · exact h y h1
  · rw [h1]; exact hx
theorem Ws.get {l : List Nat} (h : Ws l) (i : Nat) (hi : i < l.length) : l[i] < BB := h _ (List.getElem_mem hi)
/-- without leading zero words -/
def trimW (l : List Nat) : List Nat := (l.reverse.dropWhile (· == 0)).reverse
theorem trimW_zero (l : List Nat) : trimW (l ++ [0]) = trimW l := by simp [trimW]
theorem trimW_stop (l : List Nat) (x : Nat) (hx : x ≠ 0) : trimW (l ++ [x]) = l ++ [x] := by simp [trimW, hx]
def Norm (l : List Nat) : Prop := Ws l ∧ ∀ x, l.getLast? = some x → x ≠ 0
theorem snocCases {P : List Nat → Prop} (h0 : P []) (hs : ∀ l a, P l → P (l ++ [a])) (l : List Nat) : P l := by
  have h : ∀ l : List Nat, P l.reverse := by
    intro l
    induction l with
    | nil => exact h0
    | cons a r ih => rw [List.reverse_cons]; exact hs _ _ ih
  have := h l.reverse;rwa [List.reverse_reverse] at this
theorem trimW_wv (l : List Nat) : wv (trimW l) = wv l := by
  induction l using snocCases with
  | h0 => rfl
  | hs l a ih =>
    by_cases h : a = 0
    · subst h; rw [trimW_zero, ih, wv_snoc]; simp
    · rw [trimW_stop _ _ h]
theorem trimW_norm (l : List Nat) (h : Ws l) : Norm (trimW l) := by
  induction l using snocCases with
  | h0 => exact ⟨Ws.nil, fun x hx => by cases hx⟩
  | hs l a ih =>
    by_cases ha : a = 0
    · subst ha; rw [trimW_zero]; exact ih h.left
    · rw [trimW_stop _ _ ha];exact ⟨h, fun x hx => by rw [List.getLast?_append] at hx; simp at hx; omega⟩
theorem norm_pos (l : List Nat) (h : Norm l) (h0 : l ≠ []) : BB ^ (l.length - 1) ≤ wv l := by
  induction l using snocCases with
  | h0 => exact absurd rfl h0
  | hs l a _ =>
    have ha := h.2 a (by simp);rw [wv_snoc, List.length_append, List.length_singleton, Nat.add_sub_cancel];have : BB ^ l.length * 1 ≤ BB ^ l.length * a := Nat.mul_le_mul_left _ (by omega)
    omega
theorem norm_zero (l : List Nat) (h : Norm l) (h0 : wv l = 0) : l = [] := by
  apply Decidable.byContradiction;intro hne;have := norm_pos l h hne;have := BBp_pos (l.length - 1)
  omega
end Nmx
namespace Nmx

theorem Ws.getD {l : List Nat} (h : Ws l) (i : Nat) : l.getD i 0 < BB := by
  by_cases hi : i < l.length
  · rw [List.getD_eq_getElem?_getD, List.getElem?_eq_getElem hi]; exact h.get i hi
  · rw [List.getD_eq_getElem?_getD, List.getElem?_eq_none (by omega)]; exact BB_pos
end Nmx
namespace Nmx

end Nmx
namespace Nmx

def dg (d : Nat) : UInt8 := UInt8.ofNat (48 + d)
def isD (c : UInt8) : Bool := decide (48 ≤ c.toNat) && decide (c.toNat ≤ 57)
def decN (n : Nat) : List UInt8 := if _h : n < 10 then [dg n] else decN (n / 10) ++ [dg (n % 10)]
termination_by n
decreasing_by omega
def dv (l : List UInt8) : Nat := l.foldl (fun a c => 10 * a + (c.toNat - 48)) 0

theorem isD_iff {c : UInt8} : isD c = true ↔ 48 ≤ c.toNat ∧ c.toNat ≤ 57 := by simp [isD]
theorem decN_small {n : Nat} (h : n < 10) : decN n = [dg n] := by rw [decN, dif_pos h]
theorem decN_big {n : Nat} (h : ¬ n < 10) : decN n = decN (n / 10) ++ [dg (n % 10)] := by rw [decN, dif_neg h]
theorem decN_ne (n : Nat) : decN n ≠ [] := by
  by_cases h : n < 10
  · rw [decN_small h]; simp
  · rw [decN_big h]; simp
theorem dg_toNat {d : Nat} (h : d < 10) : (dg d).toNat = 48 + d := by
  unfold dg; rw [UInt8.toNat_ofNat']; omega
theorem dg_isD {d : Nat} (h : d < 10) : isD (dg d) = true := by rw [isD_iff, dg_toNat h]; omega
theorem dg_of {c : UInt8} (h : isD c = true) : dg (c.toNat - 48) = c := by
  rw [isD_iff] at h;apply UInt8.toNat_inj.1;rw [dg_toNat (by omega)]; omega
theorem decN_digits (n : Nat) : (decN n).all isD = true := by
  induction n using Nat.strongRecOn with
  | _ n ih =>
    by_cases h : n < 10
    · rw [decN_small h]; simp only [List.all_cons, List.all_nil, Bool.and_true]; exact dg_isD h
    · rw [decN_big h, List.all_append, ih (n / 10) (by omega)];simp only [List.all_cons, List.all_nil, Bool.and_true, Bool.true_and];exact dg_isD (Nat.mod_lt _ (by omega))
theorem decN_head (n : Nat) (h : n ≠ 0) : (decN n).headD 0 ≠ 48 := by
  induction n using Nat.strongRecOn with
  | _ n ih =>
    by_cases h10 : n < 10
    · rw [decN_small h10, List.headD_cons];intro e;have := congrArg UInt8.toNat e;rw [dg_toNat h10] at this;have h48 : (48 : UInt8).toNat = 48 := rfl
      omega
    · have := ih (n / 10) (by omega) (by omega);rw [decN_big h10]
      match hd : decN (n / 10), decN_ne (n / 10) with
      | c :: r, _ => rw [hd] at this; exact this

theorem snocRec {α : Type} {P : List α → Prop} (h0 : P []) (hs : ∀ l a, P l → P (l ++ [a])) (l : List α) : P l := by
  have h : ∀ l : List α, P l.reverse := by
    intro l
    induction l with
    | nil => exact h0
    | cons a r ih => rw [List.reverse_cons]; exact hs _ _ ih
  have := h l.reverse;rwa [List.reverse_reverse] at this
theorem dv_nil : dv [] = 0 := rfl
theorem dv_snoc (l : List UInt8) (c : UInt8) : dv (l ++ [c]) = 10 * dv l + (c.toNat - 48) := by simp [dv, List.foldl_append]
theorem dv_one (c : UInt8) : dv [c] = c.toNat - 48 := by simp [dv]
theorem dv_append (a b : List UInt8) : dv (a ++ b) = dv a * 10 ^ b.length + dv b := by
  induction b using snocRec with
  | h0 => simp [dv_nil]
  | hs b c ih =>
    rw [← List.append_assoc, dv_snoc, ih, dv_snoc, List.length_append, List.length_singleton, Nat.pow_succ];generalize 10 ^ b.length = p
    grind
theorem dv_cons (c : UInt8) (l : List UInt8) : dv (c :: l) = (c.toNat - 48) * 10 ^ l.length + dv l := by
  have := dv_append [c] l;rw [dv_one] at this; exact this
theorem dv_lt (l : List UInt8) (h : l.all isD = true) : dv l < 10 ^ l.length := by
  induction l with
  | nil => simp [dv_nil]
  | cons c l ih =>
    rw [List.all_cons, Bool.and_eq_true] at h;have h1 := ih h.2;have h2 := isD_iff.1 h.1;rw [dv_cons, List.length_cons, Nat.pow_succ];have : (c.toNat - 48) * 10 ^ l.length ≤ 9 * 10 ^ l.length := Nat.mul_le_mul_right _ (by omega)
    omega
theorem dv_decN (n : Nat) : dv (decN n) = n := by
  induction n using Nat.strongRecOn with
  | _ n ih =>
    by_cases h : n < 10
    · rw [decN_small h, dv_one, dg_toNat h]; omega
    · rw [decN_big h, dv_snoc, ih (n / 10) (by omega), dg_toNat (Nat.mod_lt _ (by omega))]; omega
theorem decN_inj {a b : Nat} (h : decN a = decN b) : a = b := by rw [← dv_decN a, h, dv_decN]

/-- digits without leading zeros -/
def Canon (l : List UInt8) : Prop := l.all isD = true ∧ l ≠ [] ∧ (l = [48] ∨ l.headD 0 ≠ 48)
theorem decN_canon (n : Nat) : Canon (decN n) := by
  refine ⟨decN_digits n, decN_ne n, ?_⟩
  by_cases h : n = 0
  · subst h; left; rw [decN_small (by omega)]; rfl
  · exact .inr (decN_head n h)
theorem dv_pos {l : List UInt8} (h : l.all isD = true) (h0 : l ≠ []) (h1 : l.headD 0 ≠ 48) : 10 ^ (l.length - 1) ≤ dv l := by
  match l, h0 with
  | c :: r, _ =>
    rw [List.all_cons, Bool.and_eq_true] at h;have h2 := isD_iff.1 h.1;have h3 : c.toNat ≠ 48 := fun e => h1 (UInt8.toNat_inj.1 e)
    rw [dv_cons, List.length_cons, Nat.add_sub_cancel];have : 1 * 10 ^ r.length ≤ (c.toNat - 48) * 10 ^ r.length := Nat.mul_le_mul_right _ (by omega)
    omega
theorem canon_eq {l : List UInt8} (h : Canon l) : decN (dv l) = l := by
  induction l using snocRec with
  | h0 => exact absurd rfl h.2.1
  | hs i c ih =>
    obtain ⟨h1, _, h3⟩ := h;rw [List.all_append, Bool.and_eq_true] at h1;have hc : isD c = true := by simpa using h1.2
    have hc' := isD_iff.1 hc;rw [dv_snoc]
    by_cases hi : i = []
    · subst hi;rw [dv_nil, decN_small (by omega), show 10 * 0 + (c.toNat - 48) = c.toNat - 48 by omega, dg_of hc]; rfl
    · have hh : i.headD 0 ≠ 48 := by
        rcases h3 with h3 | h3
        · exfalso
          have := congrArg List.length h3
          simp at this
          exact hi this
        · match i, hi with
          | a :: r, _ => exact h3
      have hp := dv_pos h1.1 hi hh;have hp1 : 0 < 10 ^ (i.length - 1) := Nat.pow_pos (by omega);rw [decN_big (by omega), show (10 * dv i + (c.toNat - 48)) / 10 = dv i by omega, ih ⟨h1.1, hi, .inr hh⟩, show (10 * dv i + (c.toNat - 48)) % 10 = c.toNat - 48 by omega, dg_of hc]
theorem decN_len (n : Nat) (h : n ≠ 0) : 10 ^ ((decN n).length - 1) ≤ n ∧ n < 10 ^ (decN n).length := by
  have h1 := dv_pos (decN_digits n) (decN_ne n) (decN_head n h);have h2 := dv_lt _ (decN_digits n);rw [dv_decN] at h1 h2;exact ⟨h1, h2⟩
theorem decN_len_le {n k : Nat} (hk : 0 < k) (h : n < 10 ^ k) : (decN n).length ≤ k := by
  by_cases h0 : n = 0
  · subst h0; rw [decN_small (by omega)]; simp; omega
  · have h1 := (decN_len n h0).1;have h2 : 10 ^ ((decN n).length - 1) < 10 ^ k := by omega
    have := (Nat.pow_lt_pow_iff_right (by omega : 1 < 10)).1 h2
    omega
theorem decN_len_pos (n : Nat) : 0 < (decN n).length := List.length_pos_iff.2 (decN_ne n)

/-- without leading zeros -/
def trimF : List UInt8 → List UInt8
  | [] => []
  | [c] => [c]
  | c :: d :: r => if c = 48 then trimF (d :: r) else c :: d :: r
theorem trimF_dv (l : List UInt8) : dv (trimF l) = dv l := by
  induction l with
  | nil => rfl
  | cons c r ih =>
    match r with
    | [] => rfl
    | d :: r =>
      unfold trimF
      split
      · rename_i h; subst h; rw [ih, dv_cons 48]; simp
      · rfl
theorem trimF_canon (l : List UInt8) (h : l.all isD = true) (h0 : l ≠ []) : Canon (trimF l) := by
  induction l with
  | nil => exact absurd rfl h0
  | cons c r ih =>
    match r with
    | [] =>
      unfold trimF;refine ⟨h, h0, ?_⟩
      by_cases hc : c = 48
      · subst hc; exact .inl rfl
      · exact .inr hc
    | d :: r =>
      unfold trimF
      split
      · rw [List.all_cons, Bool.and_eq_true] at h; exact ih h.2 (by simp)
      · rename_i hc; exact ⟨h, h0, .inr hc⟩
theorem trimF_decN (l : List UInt8) (h : l.all isD = true) (h0 : l ≠ []) : trimF l = decN (dv l) := by
  rw [← canon_eq (trimF_canon l h h0), trimF_dv]
theorem trimF_canon_eq (l : List UInt8) (h : Canon l) : trimF l = l := by rw [trimF_decN l h.1 h.2.1, canon_eq h]

/-- the value of the last i digits -/
def lo (l : List UInt8) (i : Nat) : Nat := dv (l.drop (l.length - i))
/-- the digit that stands i from the end -/
def di (l : List UInt8) (i : Nat) : Nat := if h : i < l.length then (l[l.length - 1 - i]'(by omega)).toNat - 48 else 0
theorem lo_zero (l : List UInt8) : lo l 0 = 0 := by simp [lo, dv_nil]
theorem lo_all (l : List UInt8) (i : Nat) (h : l.length ≤ i) : lo l i = dv l := by
  unfold lo; rw [show l.length - i = 0 by omega]; rfl
theorem lo_succ (l : List UInt8) (i : Nat) : lo l (i + 1) = di l i * 10 ^ i + lo l i := by
  unfold lo di
  by_cases h : i < l.length
  · rw [dif_pos h, show l.length - i = l.length - (i + 1) + 1 by omega, List.drop_eq_getElem_cons (by omega), dv_cons];rw [List.length_drop, show l.length - (l.length - (i + 1) + 1) = i by omega];have e : l.length - (i + 1) = l.length - 1 - i := by omega
    simp only [e]
  · rw [dif_neg h, show l.length - (i + 1) = 0 by omega, show l.length - i = 0 by omega]; simp
theorem di_at (l : List UInt8) (i : Nat) (hi : i < l.length) : di l i = (l[l.length - 1 - i]'(by omega)).toNat - 48 := by unfold di; rw [dif_pos hi]
theorem di_out (l : List UInt8) (i : Nat) (hi : ¬ i < l.length) : di l i = 0 := by unfold di; rw [dif_neg hi]

/-- same number of digits: the order of texts is the order of numbers -/
theorem lex_lt (a b : List UInt8) (hl : a.length = b.length) (ha : a.all isD = true) (hb : b.all isD = true) : a < b ↔ dv a < dv b := by
  induction a generalizing b with
  | nil =>
    match b, hl with
    | [], _ => simp
  | cons c r ih =>
    match b, hl with
    | d :: s, hl =>
      rw [List.all_cons, Bool.and_eq_true] at ha hb;rw [List.length_cons, List.length_cons] at hl;have h1 := isD_iff.1 ha.1;have h2 := isD_iff.1 hb.1;have h3 := dv_lt r ha.2;have h4 := dv_lt s hb.2;have hl' : r.length = s.length := by omega
      have hih := ih s hl' ha.2 hb.2;rw [List.cons_lt_cons_iff, dv_cons, dv_cons, hih, hl'];rw [hl'] at h3;generalize 10 ^ s.length = p at *;rw [UInt8.lt_iff_toNat_lt]
      constructor
      · rintro (h | ⟨rfl, h⟩)
        · have : (c.toNat - 48 + 1) * p ≤ (d.toNat - 48) * p := Nat.mul_le_mul_right _ (by omega);rw [Nat.add_mul] at this
          omega
        · omega
      · intro h
        by_cases e : c.toNat = d.toNat
        · right
          have : c = d := UInt8.toNat_inj.1 e;subst this;exact ⟨rfl, by omega⟩
        · left
          by_cases g : c.toNat < d.toNat
          · exact g
          · exfalso
            have : (d.toNat - 48 + 1) * p ≤ (c.toNat - 48) * p := Nat.mul_le_mul_right _ (by omega);rw [Nat.add_mul] at this
            omega
theorem len_lt {m n : Nat} (h : (decN m).length < (decN n).length) : m < n := by
  have h1 := dv_lt _ (decN_digits m);rw [dv_decN] at h1
  by_cases hn : n = 0
  · subst hn;have := decN_len_pos m;rw [decN_small (n := 0) (by omega)] at h;simp only [List.length_singleton] at h
    omega
  · have h2 := (decN_len n hn).1;have h3 : 10 ^ (decN m).length ≤ 10 ^ ((decN n).length - 1) := Nat.pow_le_pow_right (by omega) (by omega)
    omega
/-- how the reference compares: by length, then as texts -/
theorem mag_lt (m n : Nat) : (decide ((decN m).length < (decN n).length) || (decide ((decN m).length = (decN n).length) && decide (decN m < decN n))) = decide (m < n) := by
  rw [Bool.eq_iff_iff];simp only [Bool.or_eq_true, Bool.and_eq_true, decide_eq_true_eq]
  have hlex : (decN m).length = (decN n).length → (decN m < decN n ↔ m < n) := fun hl => by
    have := lex_lt _ _ hl (decN_digits m) (decN_digits n);rwa [dv_decN, dv_decN] at this
  constructor
  · rintro (h | ⟨h1, h2⟩)
    · exact len_lt h
    · exact (hlex h1).1 h2
  · intro h
    by_cases h1 : (decN m).length < (decN n).length
    · exact .inl h1
    · by_cases h2 : (decN m).length = (decN n).length
      · exact .inr ⟨h2, (hlex h2).2 h⟩
      · have := len_lt (m := n) (n := m) (by omega)
        omega
end Nmx
namespace Nmx

def decI (z : Int) : List UInt8 := if z < 0 then 45 :: decN z.natAbs else decN z.natAbs
def textQ (q : Rat) : List UInt8 := decI q.num ++ (if q.den = 1 then [] else 47 :: decN q.den)

/-- is there a minus ahead; what stands behind it -/
def sgB (l : List UInt8) : Bool := l.head? == some 45
def body (l : List UInt8) : List UInt8 := if sgB l then l.tail else l
def sgn (b : Bool) (n : Nat) : Int := if b then -(n : Int) else n
/-- an integer, leading zeros and '-0' permitted -/
def intF (l : List UInt8) : Option Int := if body l = [] ∨ (body l).all isD = false then none else some (sgn (sgB l) (dv (body l)))
/-- an integer in its canonical form -/
def canonF (l : List UInt8) : Option Int := if body l = [] ∨ ((body l).headD 0 = 48 ∧ l ≠ [48]) then none else intF l

theorem decN_cons (n : Nat) : ∃ c r, decN n = c :: r ∧ isD c = true := by
  have h1 := decN_ne n;have h2 := decN_digits n
  match hd : decN n, h1 with
  | c :: r, _ => rw [hd, List.all_cons, Bool.and_eq_true] at h2; exact ⟨c, r, rfl, h2.1⟩
theorem sgB_decN (n : Nat) : sgB (decN n) = false := by
  obtain ⟨c, r, h1, h2⟩ := decN_cons n;rw [h1];unfold sgB;have h3 := isD_iff.1 h2;simp only [List.head?_cons, beq_eq_false_iff_ne, ne_eq, Option.some.injEq];intro e; subst e;have : (45 : UInt8).toNat = 45 := rfl
  omega
theorem sgB_decI (z : Int) : sgB (decI z) = decide (z < 0) := by
  unfold decI
  split
  · rename_i h; simp [sgB, h]
  · rename_i h; rw [sgB_decN]; simp [h]
theorem body_decI (z : Int) : body (decI z) = decN z.natAbs := by
  unfold body;rw [sgB_decI];unfold decI
  split
  · rename_i h; rw [if_pos (by simpa using h)]; rfl
  · rename_i h; rw [if_neg (by simpa using h)]
theorem decN_zero : decN 0 = [48] := by rw [decN_small (by omega)]; rfl
theorem decI_zero : decI 0 = [48] := decN_zero
theorem intF_decI (z : Int) : intF (decI z) = some z := by
  unfold intF;rw [body_decI, if_neg (by rintro (h | h); exact decN_ne _ h; rw [decN_digits] at h; cases h), dv_decN, sgB_decI];unfold sgn
  congr 1
  by_cases h : z < 0
  · rw [if_pos (by simpa using h)]; omega
  · rw [if_neg (by simpa using h)]; omega
theorem canonF_decI (z : Int) : canonF (decI z) = some z := by
  unfold canonF;rw [if_neg, intF_decI];rw [body_decI];rintro (h | ⟨h1, h2⟩)
  · exact decN_ne _ h
  · by_cases h0 : z.natAbs = 0
    · apply h2;have : z = 0 := by omega
      subst this; exact decI_zero
    · exact decN_head _ h0 h1
theorem decI_nat (n : Nat) : decI (n : Int) = decN n := by unfold decI; rw [if_neg (by omega), Int.natAbs_natCast]
theorem decI_neg (n : Nat) (h : 0 < n) : decI (-(n : Int)) = 45 :: decN n := by unfold decI; rw [if_pos (by omega), Int.natAbs_neg, Int.natAbs_natCast]
theorem canonF_some {l : List UInt8} {z : Int} (h : canonF l = some z) : decI z = l := by
  unfold canonF at h
  split at h
  · cases h
  · rename_i hn
    unfold intF at h
    split at h
    · cases h
    · rename_i hi
      cases h
      have hb : body l ≠ [] := fun e => hi (.inl e)
      have hd : (body l).all isD = true := by
        cases e : (body l).all isD with
        | true => rfl
        | false => exact absurd (.inr e) hi
      by_cases h48 : (body l).headD 0 = 48
      · have hl : l = [48] := Decidable.byContradiction fun e => hn (.inr ⟨h48, e⟩)
        subst hl; decide +kernel
      · have hc := canon_eq ⟨hd, hb, .inr h48⟩;have hp := dv_pos hd hb h48;have hp1 : 0 < 10 ^ ((body l).length - 1) := Nat.pow_pos (by omega);cases hs : sgB l with
        | true =>
          show decI (-(dv (body l) : Int)) = l;rw [decI_neg _ (by omega), hc];unfold body; rw [hs, if_pos rfl]
          match l, hs with
          | c :: r, hs => simp [sgB] at hs; subst hs; rfl
          | [], hs => cases hs
        | false =>
          show decI (dv (body l) : Int) = l;rw [decI_nat, hc];unfold body; rw [hs]; rfl
theorem canonF_iff {l : List UInt8} {z : Int} : canonF l = some z ↔ decI z = l := ⟨canonF_some, fun h => by rw [← h, canonF_decI]⟩

/-- what stands before the first slash, and what stands behind it -/
def upto (l : List UInt8) : List UInt8 := l.takeWhile (· != 47)
def behind (l : List UInt8) : List UInt8 := (l.dropWhile (· != 47)).drop 1
def ratF (l : List UInt8) : Option Rat :=
  if l.contains 47 = false then Option.map (fun z : Int => (z : Rat)) (canonF l)
  else match canonF (upto l), canonF (behind l) with
    | some n, some d => if h : 1 < d ∧ n ≠ 0 ∧ n.natAbs.gcd d.natAbs = 1 then some ⟨n, d.natAbs, by omega, h.2.2⟩ else none
    | _, _ => none

theorem decN_no (n : Nat) (c : UInt8) (hc : isD c = false) : ∀ x ∈ decN n, (x != c) = true := by
  intro x hx;have := List.all_eq_true.1 (decN_digits n) x hx;rw [bne_iff_ne];intro e; subst e; rw [hc] at this; cases this
theorem decI_no47 (z : Int) : ∀ x ∈ decI z, (x != 47) = true := by
  unfold decI;intro x hx
  split at hx
  · rw [List.mem_cons] at hx;rcases hx with rfl | hx
    · rfl
    · exact decN_no _ 47 (by decide) x hx
  · exact decN_no _ 47 (by decide) x hx
theorem contains_no {l : List UInt8} (h : ∀ x ∈ l, (x != 47) = true) : l.contains 47 = false := by
  rw [Bool.eq_false_iff];intro hc;exact absurd (h 47 (by simpa using hc)) (by decide)
theorem cut_at {a b : List UInt8} (h : ∀ x ∈ a, (x != 47) = true) : upto (a ++ 47 :: b) = a ∧ behind (a ++ 47 :: b) = b ∧ (a ++ 47 :: b).contains 47 = true := by
  refine ⟨?_, ?_, by simp⟩
  · unfold upto; rw [List.takeWhile_append_of_pos h, List.takeWhile_cons]; simp
  · unfold behind; rw [List.dropWhile_append_of_pos h, List.dropWhile_cons]; simp
theorem cut_back {l : List UInt8} (h : l.contains 47 = true) : l = upto l ++ 47 :: behind l := by
  induction l with
  | nil => simp at h
  | cons c r ih =>
    by_cases hc : c = 47
    · subst hc; rfl
    · have hr : r.contains 47 = true := by
        rw [List.contains_cons] at h;rcases (Bool.or_eq_true _ _).mp h with h | h
        · exact absurd (by simpa using h) (fun e : 47 = c => hc e.symm)
        · exact h
      have hb : (c != 47) = true := by simpa using hc
      unfold upto behind;rw [List.takeWhile_cons, if_pos hb, List.dropWhile_cons, if_pos hb];exact congrArg (c :: ·) (ih hr)
theorem ratF_text (q : Rat) : ratF (textQ q) = some q := by
  unfold textQ ratF
  by_cases h : q.den = 1
  · rw [if_pos h, List.append_nil, if_pos (contains_no (decI_no47 _)), canonF_decI];simp only [Option.map_some, Option.some.injEq];exact Rat.ext rfl h.symm
  · rw [if_neg h];obtain ⟨h1, h2, h3⟩ := cut_at (b := decN q.den) (decI_no47 q.num);rw [if_neg (by rw [h3]; simp), h1, h2, canonF_decI]
    have h4 : canonF (decN q.den) = some (q.den : Int) := by
      rw [canonF_iff]; unfold decI; rw [if_neg (by omega), Int.natAbs_natCast]
    rw [h4];have hz := q.den_nz;have hred := q.reduced
    have hnum : q.num ≠ 0 := by
      intro e;rw [e] at hred
      simp [Nat.Coprime] at hred
      exact h hred
    simp only;rw [dif_pos ⟨by omega, hnum, by rw [Int.natAbs_natCast]; exact hred⟩]
    congr 1
theorem textQ_int (z : Int) : textQ (z : Rat) = decI z := by unfold textQ; rw [if_pos (Rat.den_intCast z), List.append_nil, Rat.num_intCast]
theorem ratF_some {l : List UInt8} {q : Rat} (h : ratF l = some q) : textQ q = l := by
  unfold ratF at h
  split at h
  · rename_i hc
    obtain ⟨z, hz, rfl⟩ := Option.map_eq_some_iff.1 h;rw [textQ_int];exact canonF_some hz
  · rename_i hc
    have hc' : l.contains 47 = true := by simpa using hc
    split at h
    · rename_i n d hn hd
      split at h
      · rename_i hh
        cases h
        have h1 := canonF_some hn;have h2 := canonF_some hd;unfold decI at h2;rw [if_neg (by omega)] at h2;unfold textQ;simp only;rw [if_neg (by omega), h1, h2];exact (cut_back hc').symm
      · cases h
    · cases h
/-- the text of the answer, if there is one -/
def txt : Option Rat → List UInt8
  | some q => textQ q
  | none => []
def on2 (f : Rat → Rat → Option Rat) (a b : List UInt8) : List UInt8 := txt ((ratF a).bind fun x => (ratF b).bind fun y => f x y)
theorem ratF_nil : ratF [] = none := by decide +kernel
end Nmx
namespace Nmx

/-- nine digits -/
def pad9 (n : Nat) : List UInt8 := List.replicate (9 - (decN n).length) 48 ++ decN n
theorem rep_dv (k : Nat) : dv (List.replicate k 48) = 0 := by
  induction k with
  | zero => rfl
  | succ k ih => rw [List.replicate_succ, dv_cons, ih]; simp
theorem pad9_all (n : Nat) : (pad9 n).all isD = true := by
  unfold pad9;rw [List.all_append, decN_digits, Bool.and_true, List.all_eq_true];intro x hx;rw [(List.mem_replicate.1 hx).2]; decide
theorem pad9_dv (n : Nat) : dv (pad9 n) = n := by unfold pad9; rw [dv_append, rep_dv, dv_decN]; simp
theorem pad9_len (n : Nat) (h : n < 1000000000) : (pad9 n).length = 9 := by
  have := decN_len_le (n := n) (k := 9) (by omega) (by simpa using h);unfold pad9;rw [List.length_append, List.length_replicate]; omega
theorem decN_chunk (hi lo : Nat) (h : 0 < hi) (hl : lo < 1000000000) : decN (hi * 1000000000 + lo) = decN hi ++ pad9 lo := by
  have e : dv (decN hi ++ pad9 lo) = hi * 1000000000 + lo := by rw [dv_append, dv_decN, pad9_dv, pad9_len lo hl]
  rw [← e];refine canon_eq ⟨by rw [List.all_append, decN_digits, pad9_all]; rfl, by simp [decN_ne], .inr ?_⟩;have h1 := decN_head hi (by omega)
  match hd : decN hi, decN_ne hi with
  | c :: r, _ => rw [hd] at h1; exact h1
/-- chunks of nine digits, the least significant one first -/
def chunksV : List Nat → Nat
  | [] => 0
  | x :: l => x + 1000000000 * chunksV l
theorem chunksV_snoc (l : List Nat) (x : Nat) : chunksV (l ++ [x]) = chunksV l + 1000000000 ^ l.length * x := by
  induction l with
  | nil => simp [chunksV]
  | cons y r ih => simp only [List.cons_append, chunksV, ih, List.length_cons, Nat.pow_succ]; grind
/-- what 'String' writes of the chunks from i on, the top one first -/
def chunksT (l : List Nat) : List UInt8 := match l.reverse with
  | [] => []
  | x :: r => decN x ++ (r.map pad9).flatten
theorem chunksT_snoc (x : Nat) (l : List Nat) (hl : l ≠ []) : chunksT (x :: l) = chunksT l ++ pad9 x := by
  unfold chunksT;rw [List.reverse_cons]
  match hr : l.reverse, (by simpa using hl : l.reverse ≠ []) with
  | y :: r, _ => simp
theorem chunksT_eq (l : List Nat) (hl : l ≠ []) (h : ∀ x ∈ l, x < 1000000000) (h0 : l.getLastD 0 ≠ 0) : chunksT l = decN (chunksV l) ∧ 0 < chunksV l := by
  induction l with
  | nil => exact absurd rfl hl
  | cons x r ih =>
    by_cases hr : r = []
    · subst hr;simp only [chunksT, chunksV, List.reverse_cons, List.reverse_nil, List.nil_append, List.map_nil, List.flatten_nil, List.append_nil, Nat.mul_zero, Nat.add_zero]
      simp at h0
      exact ⟨trivial, by omega⟩
    · obtain ⟨h1, h2⟩ := ih hr (fun y hy => h y (by simp [hy])) (by match r, hr with | y :: s, _ => simpa using h0);rw [chunksT_snoc x r hr, h1];refine ⟨?_, by simp only [chunksV]; omega⟩;have := decN_chunk (chunksV r) x h2 (h x (by simp));simp only [chunksV];rw [← this]; congr 1; omega
end Nmx
namespace Nmx

theorem lo_set (q : List UInt8) (n i : Nat) (c : UInt8) (hq : q.length = n) (hi : i < n) : lo (q.set (n - 1 - i) c) (i + 1) = (c.toNat - 48) * 10 ^ i + lo q i := by
  have hd : di (q.set (n - 1 - i) c) i = c.toNat - 48 := by
    rw [di_at _ _ (by rw [List.length_set]; omega)];simp only [List.length_set, hq, List.getElem_set_self]
  have hl : lo (q.set (n - 1 - i) c) i = lo q i := by
    unfold lo;rw [List.length_set, List.drop_set, if_pos (by omega)]
  rw [lo_succ, hd, hl]
/-- the last i bytes are digits -/
def Dt (q : List UInt8) (i : Nat) : Prop := (q.drop (q.length - i)).all isD = true
theorem Dt.zero (q : List UInt8) : Dt q 0 := by unfold Dt; rw [Nat.sub_zero, List.drop_length]; rfl
theorem Dt.set {q : List UInt8} {n i : Nat} {c : UInt8} (h : Dt q i) (hq : q.length = n) (hi : i < n) (hc : isD c = true) : Dt (q.set (n - 1 - i) c) (i + 1) := by
  unfold Dt at *;rw [List.length_set, hq, show n - (i + 1) = n - 1 - i by omega, List.drop_eq_getElem_cons (by rw [List.length_set]; omega), List.getElem_set_self, List.drop_set, if_pos (by omega), List.all_cons, hc, Bool.true_and];rw [hq] at h;rw [show n - 1 - i + 1 = n - i by omega]; exact h
theorem Dt.all {q : List UInt8} {n : Nat} (h : Dt q n) (hq : q.length = n) : q.all isD = true := by
  unfold Dt at h; rwa [hq, Nat.sub_self, List.drop_zero] at h
theorem dg_at (s : Nat) : (dg (s % 10)).toNat - 48 = s % 10 := by rw [dg_toNat (Nat.mod_lt _ (by omega))]; omega

/-- where a difference stands after i digits -/
structure SubD (a b q : List UInt8) (n i c : Nat) : Prop where
  len : q.length = n
  dig : Dt q i
  c1 : c ≤ 1
  eq : lo q i + lo b i = lo a i + c * 10 ^ i
theorem SubD.start (a b q : List UInt8) (n : Nat) (h : q.length = n) : SubD a b q n 0 0 := ⟨h, Dt.zero q, by omega, by rw [lo_zero, lo_zero, lo_zero, Nat.zero_mul]⟩
theorem SubD.step {a b q : List UInt8} {n i c : Nat} (h : SubD a b q n i c) (hi : i < n) (s c' : Nat) (hs : s + c + di b i = di a i + 10 * c') (h10 : s < 10) (hc : c' ≤ 1) :
    SubD a b (q.set (n - 1 - i) (dg s)) n (i + 1) c' := by
  have h4 := h.eq;refine ⟨by rw [List.length_set]; exact h.len, h.dig.set h.len hi (dg_isD h10), hc, ?_⟩;rw [lo_set _ _ _ _ h.len hi, lo_succ, lo_succ, Nat.pow_succ, dg_toNat h10, Nat.add_sub_cancel_left];generalize 10 ^ i = p at *;generalize di a i = x at *;generalize di b i = y at *
  grind
theorem SubD.done {a b q : List UInt8} {n c : Nat} (h : SubD a b q n n c) (h0 : 0 < n) (h1 : a.length ≤ n) (h2 : b.length ≤ n) (hle : dv b ≤ dv a) : trimF q = decN (dv a - dv b) := by
  have hall := h.dig.all h.len;have h4 := h.eq;rw [lo_all q n (by rw [h.len]; exact Nat.le_refl _), lo_all a n (by omega), lo_all b n (by omega)] at h4;rw [trimF_decN q hall (fun e => by have := h.len; rw [e] at this; simp at this; omega)];have h5 := dv_lt q hall;rw [h.len] at h5
  have hc : c = 0 := by
    have hc1 := h.c1;rcases Nat.eq_zero_or_pos c with hc | hc
    · exact hc
    · obtain rfl : c = 1 := by omega
      omega
  subst hc
  congr 1; omega

/-- the value of a row of great digits, most significant first -/
def vt : List Nat → Nat
  | [] => 0
  | x :: r => x * 10 ^ r.length + vt r
theorem vt_set (L : List Nat) (k x : Nat) (hk : k < L.length) : vt (L.set k (L.getD k 0 + x)) = vt L + x * 10 ^ (L.length - 1 - k) := by
  induction L generalizing k with
  | nil => simp at hk
  | cons y r ih =>
    cases k with
    | zero =>
      rw [List.set_cons_zero, vt, vt, List.getD_cons_zero, List.length_cons, Nat.add_sub_cancel, Nat.sub_zero, Nat.add_mul]
      omega
    | succ k =>
      rw [List.length_cons] at hk;rw [List.set_cons_succ, vt, vt, List.getD_cons_succ, ih k (by omega), List.length_set, List.length_cons, show r.length + 1 - 1 - (k + 1) = r.length - 1 - k by omega]
      omega
theorem vt_zeros (n : Nat) : vt (List.replicate n 0) = 0 := by
  induction n with
  | zero => rfl
  | succ n ih => rw [List.replicate_succ, vt, ih]; omega
theorem vt_drop (L : List Nat) (k : Nat) (hk : k < L.length) : vt (L.drop k) = L.getD k 0 * 10 ^ (L.length - 1 - k) + vt (L.drop (k + 1)) := by
  rw [List.drop_eq_getElem_cons hk, vt, List.length_drop, List.getD_eq_getElem?_getD, List.getElem?_eq_getElem hk, Option.getD_some, show L.length - (k + 1) = L.length - 1 - k by omega]
/-- the i-th digit from the front -/
def fd (l : List UInt8) (i : Nat) : Nat := (l.getD i 48).toNat - 48
theorem fd_lt (l : List UInt8) (h : l.all isD = true) (i : Nat) : fd l i < 10 := by
  unfold fd
  by_cases hi : i < l.length
  · rw [List.getD_eq_getElem?_getD, List.getElem?_eq_getElem hi, Option.getD_some];have := isD_iff.1 (List.all_eq_true.1 h _ (List.getElem_mem hi))
    omega
  · rw [List.getD_eq_getElem?_getD, List.getElem?_eq_none (by omega)]; decide
theorem dv_take (l : List UInt8) (i : Nat) (hi : i < l.length) : dv (l.take (i + 1)) = 10 * dv (l.take i) + fd l i := by
  rw [List.take_succ_eq_append_getElem hi, dv_snoc, fd, List.getD_eq_getElem?_getD, List.getElem?_eq_getElem hi, Option.getD_some]
theorem pow_le {k n : Nat} (h : k < n) : 10 ^ (n - k) = 10 * 10 ^ (n - 1 - k) := by rw [← Nat.pow_succ']; congr 1; omega
/-- where a product stands -/
structure MulD (a b : List UInt8) (L : List Nat) (i j : Nat) : Prop where
  len : L.length = a.length + b.length
  le : ∀ k, L.getD k 0 ≤ 81 * (i * b.length + j)
  eq : vt L = dv (a.take i) * 10 ^ (a.length - i) * dv b + fd a i * 10 ^ (a.length - 1 - i) * (dv (b.take j) * 10 ^ (b.length - j))
theorem MulD.start (a b : List UInt8) : MulD a b (List.replicate (a.length + b.length) 0) 0 0 :=
  ⟨List.length_replicate, fun k => by rw [List.getD_eq_getElem?_getD, List.getElem?_replicate]; split <;> simp, by rw [vt_zeros, List.take_zero, List.take_zero, dv_nil]; omega⟩
theorem MulD.step {a b : List UInt8} {L : List Nat} {i j : Nat} (h : MulD a b L i j) (ha : a.all isD = true) (hb : b.all isD = true) (hi : i < a.length) (hj : j < b.length) :
    MulD a b (L.set (i + j + 1) (L.getD (i + j + 1) 0 + fd a i * fd b j)) i (j + 1) := by
  refine ⟨by rw [List.length_set]; exact h.len, fun k => ?_, ?_⟩
  · have h1 := h.le k;have h2 := h.le (i + j + 1);have h3 : fd a i * fd b j ≤ 9 * 9 := Nat.mul_le_mul (by have := fd_lt a ha i; omega) (by have := fd_lt b hb j; omega);rw [List.getD_eq_getElem?_getD, List.getElem?_set]
    split
    · split
      · rw [Option.getD_some]; omega
      · simp
    · rw [← List.getD_eq_getElem?_getD]; omega
  · rw [vt_set _ _ _ (by rw [h.len]; omega), h.eq, dv_take b j hj, h.len];have e1 : 10 ^ (a.length + b.length - 1 - (i + j + 1)) = 10 ^ (a.length - 1 - i) * 10 ^ (b.length - 1 - j) := by rw [← Nat.pow_add]; congr 1; omega
    rw [e1, pow_le hj, show b.length - (j + 1) = b.length - 1 - j by omega];generalize 10 ^ (a.length - 1 - i) = p;generalize 10 ^ (b.length - 1 - j) = r;generalize fd a i = x;generalize fd b j = y;generalize dv (b.take j) = z;generalize dv (a.take i) * 10 ^ (a.length - i) * dv b = t
    grind
theorem MulD.next {a b : List UInt8} {L : List Nat} {i : Nat} (h : MulD a b L i b.length) (hi : i < a.length) : MulD a b L (i + 1) 0 := by
  refine ⟨h.len, fun k => by have := h.le k; rw [Nat.add_mul]; omega, ?_⟩;rw [h.eq, dv_take a i hi, List.take_length, Nat.sub_self, List.take_zero, dv_nil, pow_le hi, show a.length - (i + 1) = a.length - 1 - i by omega];generalize 10 ^ (a.length - 1 - i) = p
  grind
theorem MulD.done {a b : List UInt8} {L : List Nat} (h : MulD a b L a.length 0) : vt L = dv a * dv b := by
  rw [h.eq, List.take_length, Nat.sub_self, List.take_zero, dv_nil]; grind
/-- where the carrying stands after i digits -/
structure CarD (L : List Nat) (q : List UInt8) (n M i c : Nat) : Prop where
  len : q.length = n
  dig : Dt q i
  c1 : c ≤ M
  eq : lo q i + c * 10 ^ i = vt (L.drop (n - i))
theorem CarD.start (L : List Nat) (q : List UInt8) (n M : Nat) (hq : q.length = n) (hL : L.length = n) : CarD L q n M 0 0 :=
  ⟨hq, Dt.zero q, by omega, by rw [lo_zero, Nat.sub_zero, List.drop_of_length_le (by omega)]; simp [vt]⟩
theorem CarD.step {L : List Nat} {q : List UInt8} {n M i c : Nat} (h : CarD L q n M i c) (hL : L.length = n) (hM : ∀ k, L.getD k 0 ≤ M) (hi : i < n) (s : Nat) (hs : s = L.getD (n - 1 - i) 0 + c) :
    CarD L (q.set (n - 1 - i) (dg (s % 10))) n M (i + 1) (s / 10) := by
  have h3 := h.c1;have h4 := h.eq;have h6 := hM (n - 1 - i);refine ⟨by rw [List.length_set]; exact h.len, h.dig.set h.len hi (dg_isD (Nat.mod_lt _ (by omega))), by omega, ?_⟩;rw [lo_set _ _ _ _ h.len hi, dg_at, Nat.pow_succ, show n - (i + 1) = n - 1 - i by omega, vt_drop L _ (by omega), show n - 1 - i + 1 = n - i by omega, ← h4, hL, show n - 1 - (n - 1 - i) = i by omega];have h5 : s = s % 10 + s / 10 * 10 := by omega
  generalize s % 10 = u at *;generalize s / 10 = v at *;subst hs;generalize 10 ^ i = p at *;generalize L.getD (n - 1 - i) 0 = x at *
  grind
theorem CarD.done {L : List Nat} {q : List UInt8} {n M c : Nat} (h : CarD L q n M n c) (h0 : 0 < n) (hlt : vt L < 10 ^ n) : trimF q = decN (vt L) := by
  have hall := h.dig.all h.len;have h4 := h.eq;rw [lo_all q n (by rw [h.len]; exact Nat.le_refl _), Nat.sub_self, List.drop_zero] at h4;rw [trimF_decN q hall (fun e => by have := h.len; rw [e] at this; simp at this; omega)]
  have hc : c = 0 := by
    rcases Nat.eq_zero_or_pos c with hc | hc
    · exact hc
    · have : 1 * 10 ^ n ≤ c * 10 ^ n := Nat.mul_le_mul_right _ hc
      omega
  subst hc;rw [← h4, Nat.zero_mul, Nat.add_zero]
/-- where a long division by digits stands -/
structure LdD (a : List UInt8) (B : Nat) (q : List UInt8) (i R : Nat) : Prop where
  len : q.length = a.length
  dig : (q.take i).all isD = true
  r1 : R < B
  eq : dv (q.take i) * B + R = dv (a.take i)
theorem LdD.start (a q : List UInt8) (B : Nat) (hq : q.length = a.length) (hB : 0 < B) : LdD a B q 0 0 := ⟨hq, rfl, hB, by rw [List.take_zero, List.take_zero, dv_nil]; omega⟩
theorem LdD.step {a : List UInt8} {B : Nat} {q : List UInt8} {i R R' k : Nat} (h : LdD a B q i R) (hi : i < a.length) (hk : k < 10) (hR : R' < B) (he : R' + k * B = 10 * R + fd a i) :
    LdD a B (q.set i (dg k)) (i + 1) R' := by
  have hl := h.len
  have ht : (q.set i (dg k)).take (i + 1) = q.take i ++ [dg k] := by
    rw [List.take_succ_eq_append_getElem (by rw [List.length_set]; omega), List.getElem_set_self, List.take_set, List.set_eq_of_length_le (by rw [List.length_take]; omega)]
  refine ⟨by rw [List.length_set]; exact hl, ?_, hR, ?_⟩
  · rw [ht, List.all_append, h.dig]; simp [dg_isD hk]
  · have := h.eq;rw [ht, dv_snoc, dv_take a i hi, dg_toNat hk, ← this, Nat.add_sub_cancel_left];generalize dv (q.take i) = x at *
    grind
theorem LdD.done {a : List UInt8} {B : Nat} {q : List UInt8} {R : Nat} (h : LdD a B q a.length R) (h0 : a ≠ []) : trimF q = decN (dv a / B) ∧ R = dv a % B := by
  have h1 := h.eq;have h2 := h.dig;have hB := h.r1;rw [List.take_length, List.take_of_length_le (by rw [h.len]; exact Nat.le_refl _)] at h1;rw [List.take_of_length_le (by rw [h.len]; exact Nat.le_refl _)] at h2;rw [trimF_decN q h2 (fun e => h0 (List.length_eq_zero_iff.1 (by rw [← h.len, e]; rfl)))]
  have h3 : dv a / B = dv q ∧ dv a % B = R := by
    rw [← h1];refine ⟨?_, ?_⟩
    · rw [Nat.mul_comm, Nat.mul_add_div (by omega), Nat.div_eq_of_lt hB, Nat.add_zero]
    · rw [Nat.mul_comm, Nat.mul_add_mod, Nat.mod_eq_of_lt hB]
  exact ⟨by rw [h3.1], h3.2.symm⟩
theorem trim_push (R : Nat) (c : UInt8) (hc : isD c = true) : trimF (decN R ++ [c]) = decN (10 * R + (c.toNat - 48)) := by
  rw [trimF_decN _ (by rw [List.all_append, decN_digits]; simp [hc]) (by simp), dv_snoc, dv_decN]
theorem digit_le {B R d k R' : Nat} (hR : R < B) (hd : d < 10) (he : R' + k * B = 10 * R + d) (hB : B ≤ R') : k + 1 < 10 := by
  rcases Nat.lt_or_ge (k + 1) 10 with h | h
  · exact h
  · have : 10 * B ≤ (k + 1) * B := Nat.mul_le_mul_right _ h;rw [Nat.add_mul] at this
    omega
end Nmx
namespace Nmx

/-- the number of a sign, a numerator and a denominator -/
def redQ (neg : Bool) (n d : Nat) : Rat := Rat.divInt (sgn neg n) d
theorem sgn_natAbs (b : Bool) (n : Nat) : (sgn b n).natAbs = n := by cases b <;> simp [sgn]
theorem sgn_lt (b : Bool) (n : Nat) : decide (sgn b n < 0) = (b && decide (n ≠ 0)) := by
  rw [Bool.eq_iff_iff];cases b
  · simp [sgn]
  · simp [sgn]
    omega
theorem redQ_parts (neg : Bool) (n d : Nat) (hd : 0 < d) : (redQ neg n d).num = sgn neg (n / n.gcd d) ∧ (redQ neg n d).den = d / n.gcd d := by
  unfold redQ;rw [Rat.divInt_ofNat, ← Rat.normalize_eq_mkRat (by omega), Rat.normalize_eq];have hg : (sgn neg n).natAbs.gcd d = n.gcd d := by rw [sgn_natAbs]
  simp only [hg, and_true];obtain ⟨k, hk⟩ := Nat.gcd_dvd_left n d;have hp : 0 < n.gcd d := Nat.gcd_pos_of_pos_right _ hd;generalize n.gcd d = g at *;subst hk;have e : (g * k : Nat) / g = k := Nat.mul_div_cancel_left _ hp;rw [e];cases neg
  · simp only [sgn, Bool.false_eq_true, if_false, Int.natCast_mul];exact Int.mul_ediv_cancel_left _ (by omega)
  · simp only [sgn, if_true, Int.natCast_mul];rw [← Int.mul_neg];exact Int.mul_ediv_cancel_left _ (by omega)
theorem redQ_num (neg : Bool) (n d : Nat) (hd : 0 < d) : decide ((redQ neg n d).num < 0) = (neg && decide (n / n.gcd d ≠ 0)) ∧ (redQ neg n d).num.natAbs = n / n.gcd d := by
  rw [(redQ_parts neg n d hd).1, sgn_lt, sgn_natAbs]; exact ⟨rfl, rfl⟩
theorem sgn_of (z : Int) : sgn (decide (z < 0)) z.natAbs = z := by unfold sgn; split <;> simp_all <;> omega
theorem redQ_self (q : Rat) : redQ (decide (q.num < 0)) q.num.natAbs q.den = q := by
  unfold redQ; rw [sgn_of]; rw [Rat.divInt_ofNat, Rat.mkRat_self]

theorem sgB_app (z : Int) (t : List UInt8) : sgB (decI z ++ t) = decide (z < 0) := by
  have h := sgB_decI z;obtain ⟨c, r, hc, -⟩ := decN_cons z.natAbs;unfold decI sgB at *
  by_cases hz : z < 0
  · rw [if_pos hz] at h ⊢; exact h
  · rw [if_neg hz, hc] at h ⊢; exact h
theorem body_app (z : Int) (t : List UInt8) : body (decI z ++ t) = decN z.natAbs ++ t := by
  have h := sgB_app z t;unfold body;rw [h];unfold decI
  by_cases hz : z < 0
  · rw [decide_eq_true hz, if_pos rfl, if_pos hz]; rfl
  · rw [decide_eq_false hz, if_neg (by simp), if_neg hz]
theorem upto_no {l : List UInt8} (h : ∀ x ∈ l, (x != 47) = true) : upto l = l := by
  unfold upto
  induction l with
  | nil => rfl
  | cons c r ih => rw [List.takeWhile_cons, if_pos (h c List.mem_cons_self), ih fun x hx => h x (List.mem_cons_of_mem _ hx)]
/-- what the reference takes for the denominator -/
def denB (s : List UInt8) : List UInt8 := if s.contains 47 then behind s else [49]
theorem decN_one : decN 1 = [49] := by rw [decN_small (by omega)]; rfl
theorem text_parts (q : Rat) : sgB (textQ q) = decide (q.num < 0) ∧ upto (body (textQ q)) = decN q.num.natAbs ∧ denB (body (textQ q)) = decN q.den := by
  unfold textQ;rw [sgB_app, body_app];refine ⟨rfl, ?_⟩;have hn := decN_no q.num.natAbs 47 (by decide)
  by_cases hd : q.den = 1
  · rw [if_pos hd, List.append_nil, upto_no hn, denB, contains_no hn, hd, decN_one]; simp
  · rw [if_neg hd];obtain ⟨h1, h2, h3⟩ := cut_at (b := decN q.den) hn;rw [h1, denB, h3, h2]; simp
/-- what is not the text of a number -/
theorem parse_none {l : List UInt8} (h : ratF l = none) (q : Rat) : textQ q ≠ l := fun e => by rw [← e, ratF_text] at h; cases h
theorem parse_text {l : List UInt8} {q : Rat} (h : ratF l = some q) : sgB l = decide (q.num < 0) ∧ upto (body l) = decN q.num.natAbs ∧ denB (body l) = decN q.den := by
  rw [← ratF_some h]; exact text_parts q
/-- how the reference writes a number -/
theorem textQ_form (q : Rat) : textQ q = (if q.num < 0 then [45] else []) ++ (decN q.num.natAbs ++ (if q.den = 1 then [] else 47 :: decN q.den)) := by
  unfold textQ decI
  split <;> simp
theorem decN_eq_one {n : Nat} : decN n = [49] ↔ n = 1 := ⟨fun h => decN_inj (h.trans decN_one.symm), fun h => by rw [h, decN_one]⟩
theorem decN_eq_zero {n : Nat} : decN n = [48] ↔ n = 0 := ⟨fun h => decN_inj (h.trans decN_zero.symm), fun h => by rw [h, decN_zero]⟩

theorem sgn_mul (a b : Bool) (m n : Nat) : sgn (a != b) (m * n) = sgn a m * sgn b n := by
  cases a <;> cases b <;> simp [sgn, Int.mul_neg, Int.neg_mul]
theorem neg_mul_nat (a : Bool) (m n : Nat) : sgn a (m * n) = sgn a m * n := by cases a <;> simp [sgn, Int.neg_mul]
theorem redQ_mul (x y : Rat) : redQ (decide (x.num < 0) != decide (y.num < 0)) (x.num.natAbs * y.num.natAbs) (x.den * y.den) = x * y := by
  unfold redQ;rw [sgn_mul, sgn_of, sgn_of, Rat.mul_def, Rat.normalize_eq_mkRat (Nat.mul_ne_zero x.den_nz y.den_nz), Rat.divInt_ofNat]
theorem add_form (x y : Rat) : x + y = Rat.divInt (x.num * y.den + y.num * x.den) ((x.den * y.den : Nat) : Int) := by
  rw [Rat.add_def, Rat.normalize_eq_mkRat (Nat.mul_ne_zero x.den_nz y.den_nz), Rat.divInt_ofNat]
theorem redQ_same (x y : Rat) (h : decide (x.num < 0) = decide (y.num < 0)) : redQ (decide (x.num < 0)) (x.num.natAbs * y.den + y.num.natAbs * x.den) (x.den * y.den) = x + y := by
  rw [add_form];unfold redQ
  congr 1
  have h1 := neg_mul_nat (decide (x.num < 0)) x.num.natAbs y.den;have h2 := neg_mul_nat (decide (y.num < 0)) y.num.natAbs x.den;rw [sgn_of] at h1 h2;rw [← h1, ← h2, ← h];cases decide (x.num < 0) <;> simp [sgn] <;> omega
theorem redQ_more (x y : Rat) (h : decide (x.num < 0) ≠ decide (y.num < 0)) (hle : y.num.natAbs * x.den ≤ x.num.natAbs * y.den) : redQ (decide (x.num < 0)) (x.num.natAbs * y.den - y.num.natAbs * x.den) (x.den * y.den) = x + y := by
  rw [add_form];unfold redQ
  congr 1
  have h1 := neg_mul_nat (decide (x.num < 0)) x.num.natAbs y.den;have h2 := neg_mul_nat (decide (y.num < 0)) y.num.natAbs x.den;rw [sgn_of] at h1 h2;rw [← h1, ← h2];generalize x.num.natAbs * y.den = m at *;generalize y.num.natAbs * x.den = n at *
  revert h
  cases decide (x.num < 0) <;> cases decide (y.num < 0) <;> simp [sgn] <;> omega
theorem redQ_less (x y : Rat) (h : decide (x.num < 0) ≠ decide (y.num < 0)) (hle : x.num.natAbs * y.den ≤ y.num.natAbs * x.den) : redQ (decide (y.num < 0)) (y.num.natAbs * x.den - x.num.natAbs * y.den) (x.den * y.den) = x + y := by
  have := redQ_more y x (Ne.symm h) hle;rwa [Rat.add_comm, Nat.mul_comm y.den] at this
theorem redQ_div (x y : Rat) (h : y.num ≠ 0) : redQ (decide (x.num < 0) != decide (y.num < 0)) (x.num.natAbs * y.den) (x.den * y.num.natAbs) = x / y := by
  have hy : y ≠ 0 := fun e => h (by rw [e]; rfl)
  have e : x / y = Rat.divInt (x.num * y.den) (x.den * y.num) := by
    rw [Rat.div_def]
    have h1 : y⁻¹ = Rat.divInt y.den y.num := by
      conv => lhs; rw [← Rat.num_divInt_den y]
      rw [Rat.inv_divInt]
    rw [h1]
    conv => lhs; rw [← Rat.num_divInt_den x]
    rw [Rat.divInt_mul_divInt]
  rw [e];unfold redQ
  by_cases hn : y.num < 0
  · have e2 : (x.den : Int) * y.num = -((x.den * y.num.natAbs : Nat) : Int) := by rw [Int.natCast_mul, ← Int.mul_neg]; congr 1; omega
    rw [e2, Rat.divInt_neg', decide_eq_true hn]
    congr 1
    have h1 := neg_mul_nat (decide (x.num < 0)) x.num.natAbs y.den;rw [sgn_of] at h1;rw [← h1];cases decide (x.num < 0) <;> simp [sgn]
  · have e2 : (x.den : Int) * y.num = ((x.den * y.num.natAbs : Nat) : Int) := by rw [Int.natCast_mul]; congr 1; omega
    rw [e2, decide_eq_false hn, Bool.bne_false, neg_mul_nat, sgn_of]
/-- the greatest integer that is not greater -/
def flI (x : Rat) : Int := x.num / x.den
theorem flI_eq (x : Rat) : sgn (decide (x.num < 0)) (x.num.natAbs / x.den + (if (decide (x.num < 0) && decide (x.num.natAbs % x.den ≠ 0)) = true then 1 else 0)) = flI x := by
  unfold flI;have hd := x.den_pos
  by_cases hn : x.num < 0
  · obtain ⟨m, hm⟩ : ∃ m : Nat, x.num = -(m : Int) := ⟨x.num.natAbs, by omega⟩
    rw [hm, Int.natAbs_neg, Int.natAbs_natCast];rw [hm] at hn;rw [decide_eq_true hn];generalize x.den = d at *;have h1 := Nat.div_add_mod m d;have h2 := Nat.mod_lt m hd
    by_cases h0 : m % d = 0
    · rw [if_neg (by simp [h0]), Nat.add_zero];rw [h0, Nat.add_zero] at h1;simp only [sgn, if_true]
      conv => rhs; rw [← h1]
      rw [Int.natCast_mul, ← Int.mul_neg];exact (Int.mul_ediv_cancel_left _ (by omega)).symm
    · rw [if_pos (by simp [h0])];simp only [sgn, if_true]
      symm
      rw [Int.ediv_eq_iff_of_pos (by omega)];generalize m / d = u at *;generalize m % d = r at *;subst h1
      constructor <;> grind
  · obtain ⟨m, hm⟩ : ∃ m : Nat, x.num = (m : Int) := ⟨x.num.natAbs, by omega⟩
    rw [decide_eq_false hn, Bool.false_and, if_neg (by simp), hm, Int.natAbs_natCast]
    simp [sgn]
end Nmx
namespace Nmx

/-- the least integer that is not less -/
def ceI (x : Rat) : Int := -flI (-x)
end Nmx
namespace Nmx

/-- at most d digits in the numerator and the denominator -/
def DS (d : Nat) (q : Rat) : Prop := q.num.natAbs < 10 ^ d ∧ q.den ≤ 10 ^ d
theorem ten_le {d e : Nat} (h : d ≤ e) : 10 ^ d ≤ 10 ^ e := Nat.pow_le_pow_right (by omega) h
theorem ten_pos (d : Nat) : 0 < 10 ^ d := Nat.pow_pos (by omega)
theorem DS.mono {d e : Nat} {q : Rat} (h : DS d q) (hd : d ≤ e) : DS e q :=
  ⟨Nat.lt_of_lt_of_le h.1 (ten_le hd), Nat.le_trans h.2 (ten_le hd)⟩
theorem ten_mul {a b d e : Nat} (ha : a < 10 ^ d) (hb : b ≤ 10 ^ e) : a * b < 10 ^ (d + e) := by
  rw [Nat.pow_add];rcases Nat.eq_zero_or_pos b with h | h
  · subst h; rw [Nat.mul_zero]; exact Nat.mul_pos (ten_pos _) (ten_pos _)
  · exact Nat.mul_lt_mul_of_lt_of_le ha hb (ten_pos _)
theorem ten_mul_le {a b d e : Nat} (ha : a ≤ 10 ^ d) (hb : b ≤ 10 ^ e) : a * b ≤ 10 ^ (d + e) := by
  rw [Nat.pow_add]; exact Nat.mul_le_mul ha hb
theorem redQ_le (neg : Bool) (n d : Nat) (hd : 0 < d) : (redQ neg n d).num.natAbs ≤ n ∧ (redQ neg n d).den ≤ d := by
  obtain ⟨h1, h2⟩ := redQ_parts neg n d hd;rw [h1, h2, sgn_natAbs];exact ⟨Nat.div_le_self _ _, Nat.div_le_self _ _⟩
theorem DS.red {neg : Bool} {n d k : Nat} (hn : n < 10 ^ k) (hd : 0 < d) (hd' : d ≤ 10 ^ k) : DS k (redQ neg n d) := by
  obtain ⟨h1, h2⟩ := redQ_le neg n d hd;exact ⟨Nat.lt_of_le_of_lt h1 hn, Nat.le_trans h2 hd'⟩
theorem DS.mul {d e : Nat} {p q : Rat} (hp : DS d p) (hq : DS e q) : DS (d + e) (p * q) := by
  rw [← redQ_mul];exact DS.red (ten_mul hp.1 (Nat.le_of_lt hq.1)) (Nat.mul_pos p.den_pos q.den_pos) (ten_mul_le hp.2 hq.2)
theorem DS.add {d e : Nat} {p q : Rat} (hp : DS d p) (hq : DS e q) : DS (d + e + 1) (p + q) := by
  have h1 := ten_mul hp.1 hq.2;have h2 := ten_mul hq.1 hp.2;have h3 := ten_mul_le hp.2 hq.2;rw [Nat.add_comm e d] at h2;have h4 : 10 ^ (d + e + 1) = 10 * 10 ^ (d + e) := Nat.pow_succ';have h5 : p.num.natAbs * q.den + q.num.natAbs * p.den < 10 ^ (d + e + 1) := by omega
  have h6 : p.den * q.den ≤ 10 ^ (d + e + 1) := by omega
  have h7 : 0 < p.den * q.den := Nat.mul_pos p.den_pos q.den_pos
  by_cases hs : decide (p.num < 0) = decide (q.num < 0)
  · rw [← redQ_same p q hs]; exact DS.red h5 h7 h6
  · rcases Nat.le_total (q.num.natAbs * p.den) (p.num.natAbs * q.den) with hle | hle
    · rw [← redQ_more p q hs hle]; exact DS.red (by omega) h7 h6
    · rw [← redQ_less p q hs hle]; exact DS.red (by omega) h7 h6
theorem DS.neg {d : Nat} {p : Rat} (hp : DS d p) : DS d (-p) := ⟨by show (-p.num).natAbs < _; rw [Int.natAbs_neg]; exact hp.1, hp.2⟩
theorem DS.div {d e : Nat} {p q : Rat} (hp : DS d p) (hq : DS e q) (h0 : q.num ≠ 0) : DS (d + e) (p / q) := by
  rw [← redQ_div p q h0];exact DS.red (ten_mul hp.1 hq.2) (Nat.mul_pos p.den_pos (by omega)) (ten_mul_le hp.2 (Nat.le_of_lt hq.1))
theorem DS.int {d : Nat} {z : Int} (h : z.natAbs < 10 ^ d) : DS d (z : Rat) := ⟨by rw [Rat.num_intCast]; exact h, by rw [Rat.den_intCast]; exact ten_pos d⟩
theorem DS.zero (d : Nat) : DS d 0 := DS.int (z := 0) (ten_pos d)
theorem DS.num {d : Nat} {p : Rat} (hp : DS d p) : DS d (p.num : Rat) := DS.int hp.1
theorem DS.den {d : Nat} {p : Rat} (hp : DS d p) : DS (d + 1) (((p.den : Int)) : Rat) := DS.int (by
  rw [Int.natAbs_natCast];have := hp.2;have := ten_pos d;have h4 : 10 ^ (d + 1) = 10 * 10 ^ d := Nat.pow_succ'
  omega)
theorem fl_abs (x : Rat) : (flI x).natAbs ≤ x.num.natAbs + 1 := by
  rw [← flI_eq, sgn_natAbs];have := Nat.div_le_self x.num.natAbs x.den
  split <;> omega
theorem DS.fl {d : Nat} {p : Rat} (hp : DS d p) : DS (d + 1) (flI p : Rat) := DS.int (by
  have h1 := fl_abs p;have h2 := hp.1;have h4 : 10 ^ (d + 1) = 10 * 10 ^ d := Nat.pow_succ'
  omega)
theorem DS.ce {d : Nat} {p : Rat} (hp : DS d p) : DS (d + 1) (ceI p : Rat) := by
  unfold ceI; rw [Rat.intCast_neg]; exact hp.neg.fl.neg
theorem dec_lt (n : Nat) : n < 10 ^ (decN n).length := by
  by_cases h : n = 0
  · subst h; exact ten_pos _
  · exact (decN_len n h).2
theorem decI_ge (z : Int) : (decN z.natAbs).length ≤ (decI z).length := by unfold decI; split <;> simp
theorem decI_le (z : Int) : (decI z).length ≤ (decN z.natAbs).length + 1 := by unfold decI; split <;> simp
theorem DS.decN_num {d : Nat} {q : Rat} (h : DS d q) : (decN q.num.natAbs).length ≤ d + 1 :=
  decN_len_le (by omega) (Nat.lt_of_lt_of_le h.1 (ten_le (by omega)))
theorem DS.decN_den {d : Nat} {q : Rat} (h : DS d q) : (decN q.den).length ≤ d + 1 :=
  decN_len_le (by omega) (by
    have h4 : 10 ^ (d + 1) = 10 * 10 ^ d := Nat.pow_succ';have := h.2;have := ten_pos d
    omega)
theorem DS.len {d : Nat} {q : Rat} (h : DS d q) : (textQ q).length ≤ 2 * d + 4 := by
  have h1 := h.decN_num;have h2 := h.decN_den;have h3 := decI_le q.num;unfold textQ;rw [List.length_append]
  split
  · simp; omega
  · rw [List.length_cons]; omega
theorem DS.parts {d : Nat} {q : Rat} (h : DS d q) : (decI q.num).length + (decI q.den).length ≤ 2 * d + 4 := by
  have h1 := h.decN_num;have h2 := h.decN_den;have h3 := decI_le q.num;rw [decI_nat]; omega
def mulO (x y : Rat) : Option Rat := some (x * y)
def divO (x y : Rat) : Option Rat := if y.num = 0 then none else some (x / y)
theorem on2_text (f : Rat → Rat → Option Rat) (p q : Rat) : on2 f (textQ p) (textQ q) = txt (f p q) := by unfold on2; rw [ratF_text, ratF_text]; rfl
theorem on2_some {f : Rat → Rat → Option Rat} {a b : List UInt8} {p q : Rat} (hp : ratF a = some p) (hq : ratF b = some q) : on2 f a b = txt (f p q) := by unfold on2; rw [hp, hq]; rfl
theorem on2_left {f : Rat → Rat → Option Rat} {a b : List UInt8} (hp : ratF a = none) : on2 f a b = [] := by unfold on2; rw [hp]; rfl
theorem on2_right {f : Rat → Rat → Option Rat} {a b : List UInt8} (hq : ratF b = none) : on2 f a b = [] := by unfold on2; rw [hq]; cases ratF a <;> rfl
end Nmx
/- Slices of words in memory; trim, wordsOf, cmpWords of package exact. -/
namespace Go.Proofs.YtapdbeaoakcjeaaGreatDoor
open Go.RowKit Nmx

theorem ret_int {k : IntKind} {a b : Int} (h : a = b) : Ending.returned (.int k a) = .returned (.int k b) := by rw [h]
theorem ret_bool {a b : Bool} (h : a = b) : Ending.returned (.bool a) = .returned (.bool b) := by rw [h]
theorem ret_str {a b : ByteArray} (h : a = b) : Ending.returned (.string a) = .returned (.string b) := by rw [h]

theorem bcell {W w1 : World} (hb : Below W.heap.size W w1) : (∀ b o, b < W.heap.size → w1.cell? ⟨b, o, none⟩ = W.cell? ⟨b, o, none⟩) ∧ (∀ b o, b < W.heap.size → w1.frozen? ⟨b, o, none⟩ = W.frozen? ⟨b, o, none⟩) :=
  ⟨fun b o h => hb.cell (p := ⟨b, o, none⟩) h, fun b o h => hb.frozen (p := ⟨b, o, none⟩) h⟩

/-- the slice with address ao, l's length and capacity cap reads as the words l, which lie in block g, a row of words, from off on -/
structure WS (w : World) (ao : Option Addr) (g off cap : Nat) (l : List Nat) : Prop where
  le : l.length ≤ cap
  most : cap ≤ 9223372036854775807
  ad : 0 < cap → ao = some ⟨g, off, none⟩
  nil : ao = none → cap = 0
  blk : 0 < cap → ∃ cs fr, w.heap[g]? = some (.cells cs 235 fr)
  at_ : ∀ i, i < l.length → w.cell? ⟨g, off + i, none⟩ = some (.int .u32 ((l.getD i 0 : Nat) : Int))
  ws : Ws l
theorem lt_of_heap {w : World} {g : Nat} {o : Obj} (h : w.heap[g]? = some o) : g < w.heap.size := (Array.getElem?_eq_some_iff.1 h).1
theorem WS.lt {w : World} {ao : Option Addr} {g off cap : Nat} {l : List Nat} (h : WS w ao g off cap l) (hc : 0 < cap) : g < w.heap.size := let ⟨_, _, hb⟩ := h.blk hc; lt_of_heap hb
/-- what is so wherever block g is as it was -/
theorem WS.same {w w' : World} {ao : Option Addr} {g off cap : Nat} {l : List Nat} (h : WS w ao g off cap l) (hg : 0 < cap → w'.heap[g]? = w.heap[g]?) : WS w' ao g off cap l :=
  ⟨h.le, h.most, h.ad, h.nil, fun hc => by rw [hg hc]; exact h.blk hc, fun i hi => (World.cell?_of_block (hg (by have := h.le; omega))).trans (h.at_ i hi), h.ws⟩
theorem WS.far {w w' : World} {ao : Option Addr} {g off cap : Nat} {l : List Nat} (h : WS w ao g off cap l) (hb : Below w.heap.size w w') : WS w' ao g off cap l := h.same fun hc => hb.block g (h.lt hc)
theorem WS.drewN {w : World} {ao : Option Addr} {g off cap : Nat} {l : List Nat} (h : WS w ao g off cap l) (n : Nat) : WS (w.drewN n) ao g off cap l :=
  ⟨h.le, h.most, h.ad, h.nil, h.blk, h.at_, h.ws⟩
/-- a store into a block of another type -/
theorem WS.store {w : World} {ao : Option Addr} {g off cap : Nat} {l : List Nat} (h : WS w ao g off cap l) {p : Addr} {cs : Array Value} {t : TypeId} {fr : Nat × Nat} (hp : w.heap[p.block]? = some (.cells cs t fr)) (ht : t ≠ 235) (u : Value) : WS (w.setCell p u) ao g off cap l :=
  h.same fun hc => by
    refine Below.heap_setCell w p u g (fun e => ?_);obtain ⟨cs', fr', hb⟩ := h.blk hc;rw [e, hp] at hb;cases hb; exact ht rfl
theorem WS.take {w : World} {ao : Option Addr} {g off cap : Nat} {l : List Nat} (h : WS w ao g off cap l) (n : Nat) : WS w ao g off cap (l.take n) :=
  ⟨by rw [List.length_take]; have := h.le; omega, h.most, h.ad, h.nil, h.blk,
    fun i hi => by
      rw [List.length_take] at hi;have e : (l.take n).getD i 0 = l.getD i 0 := by rw [List.getD_eq_getElem?_getD, List.getElem?_take, if_pos (by omega), ← List.getD_eq_getElem?_getD]
      rw [e]; exact h.at_ i (by omega), h.ws.take n⟩
theorem below_drewN {B : Nat} {a w : World} (h : Below B a w) (n : Nat) : Below B a (w.drewN n) := ⟨h.os, h.tape, h.output, h.size, h.block⟩
/-- how the words compare -/
def cmpN (a b : Nat) : Int := if a < b then -1 else if b < a then 1 else 0
theorem cmpN_lt {a b : Nat} (h : a < b) : cmpN a b = -1 := by unfold cmpN; rw [if_pos h]
theorem cmpN_gt {a b : Nat} (h : b < a) : cmpN a b = 1 := by unfold cmpN; rw [if_neg (by omega), if_pos h]
theorem cmpN_eq {a b : Nat} (h : a = b) : cmpN a b = 0 := by unfold cmpN; rw [if_neg (by omega), if_neg (by omega)]

/-- words as cells -/
def u32s (l : List Nat) : List Value := l.map fun n : Nat => Value.int .u32 (n : Int)
theorem u32s_at (l : List Nat) (i : Nat) (hi : i < l.length) : (u32s l)[i]? = some (.int .u32 ((l.getD i 0 : Nat) : Int)) := by simp [u32s, hi]
theorem u32s_len (l : List Nat) : (u32s l).length = l.length := by simp [u32s]
/-- words that a new block holds -/
theorem WS.new (w : World) (l : List Nat) (h : Ws l) (hl : l.length ≤ 1000000000) : WS (w.alloc (.cells (u32s l).toArray 235)) (some ⟨w.heap.size, 0, none⟩) w.heap.size 0 l.length l := by
  refine ⟨Nat.le_refl _, by omega, fun _ => rfl, (fun h => by cases h), fun _ => ⟨_, _, heap_alloc_new w _⟩, fun i hi => ?_, h⟩;rw [cell_of_row _ _ _ _ _ _ (heap_alloc_new w _), Nat.zero_add]
  simpa using u32s_at l i hi

end Go.Proofs.YtapdbeaoakcjeaaGreatDoor
namespace Go.Proofs.YtapdbeaoakcjeaaGreatDoor
open Go.RowKit Nmx

section
set_option maxRecDepth 100000
/-- a world in which the integer in block R has turned -/
def set3 (w : World) (R : Nat) (x y z : Value) : World := ((w.setCell ⟨R, 0, none⟩ x).setCell ⟨R, 1, none⟩ y).setCell ⟨R, 2, none⟩ z
end
def smallV (z : Int) : Value := .agg #[.int .i64 z, .bool false, .slice none 0 0]
def bigV (b : Bool) (ao : Option Addr) (n cap : Nat) : Value := .agg #[.int .i64 0, .bool b, .slice ao n cap]
/-- small enough for one machine word, as package exact has it -/
def Small (z : Int) : Prop := -9223372036854775807 ≤ z ∧ z ≤ 9223372036854775807
/-- rows of words that are too big for that -/
def Big (l : List Nat) : Prop := Norm l ∧ ¬ Small (wv l) ∧ l.length ≤ 1000000
/-- the value reads as the integer z -/
def IV (w : World) (v : Value) (z : Int) : Prop :=
  (v = smallV z ∧ Small z) ∨ ∃ b g off cap l, v = bigV b (some ⟨g, off, none⟩) l.length cap ∧ WS w (some ⟨g, off, none⟩) g off cap l ∧ Big l ∧ z = sgn b (wv l)
instance smallDec (z : Int) : Decidable (Small z) := inferInstanceAs (Decidable (_ ∧ _))
theorem IV.far {w w' : World} {v : Value} {z : Int} (h : IV w v z) (hb : Below w.heap.size w w') : IV w' v z := by
  rcases h with h | ⟨b, g, off, cap, l, h1, h2, h3, h4⟩
  · exact .inl h
  · exact .inr ⟨b, g, off, cap, l, h1, h2.far hb, h3, h4⟩
theorem Big.pos {l : List Nat} (h : Big l) : 0 < wv l ∧ 1 < wv l := by
  have := h.2.1;unfold Small at this
  omega
theorem big_sgn {b : Bool} {l : List Nat} (h : Big l) : ¬ Small (sgn b (wv l)) ∧ (sgn b (wv l) < 0 ↔ b = true) := by
  have h1 := h.2.1;have h2 := h.pos;unfold Small sgn at *;cases b <;> simp <;> omega
theorem small_iv (w : World) {z : Int} (h : Small z) : IV w (smallV z) z := .inl ⟨rfl, h⟩

/-- -1, 0 or 1 -/
def sgnI (z : Int) : Int := if z < 0 then -1 else if 0 < z then 1 else 0

section
set_option maxRecDepth 100000
set_option maxHeartbeats 1000000
theorem mag_neq (w : World) (a : Addr) (n c : Nat) : (binOp .neq 153 (.slice (some a) n c) (.slice none 0 0)).run Tryz.prog w = .ok (.bool true) w := run_neq_slice_nil_any w _ _ (some a) n c 0 0 Tryz.underlying153
theorem mag_neq0 (w : World) : (binOp .neq 153 (.slice none 0 0) (.slice none 0 0)).run Tryz.prog w = .ok (.bool false) w := run_neq_slice_nil_any w _ _ none 0 0 0 0 Tryz.underlying153

theorem mag_eql (w : World) (a : Addr) (n c : Nat) : (binOp .eql 153 (.slice (some a) n c) (.slice none 0 0)).run Tryz.prog w = .ok (.bool false) w := Lib.run_eql_slice_nil w _ _ (some a) n c 0 0 Tryz.underlying153
theorem mag_eql0 (w : World) : (binOp .eql 153 (.slice none 0 0) (.slice none 0 0)).run Tryz.prog w = .ok (.bool true) w := Lib.run_eql_slice_nil w _ _ none 0 0 0 0 Tryz.underlying153

theorem sign_any (v : Value) (z : Int) (w : World) (h : IV w v z) :
    Calls Tryz.prog 155 #[v] w fun e w' => e = .returned (.int .i64 (sgnI z)) ∧ Below w.heap.size w w' := by
  have kq := mag_neq;have kq0 := mag_neq0;rcases h with ⟨rfl, hs⟩ | ⟨b, g, off, cap, l, rfl, hw, hl, rfl⟩
  · unfold smallV
    go_enter Tryz.func155, Tryz.ntmps155
    go_wp2
    all_goals go_ret
    all_goals exact ⟨ret_int (by unfold sgnI; grind), (Below.refl _ _).alloc (Nat.le_refl _) _⟩
  · have hsg := (big_sgn (b := b) hl).2;have hz : ¬ sgn b (wv l) = 0 := fun e => (big_sgn (b := b) hl).1 (by rw [e]; unfold Small; omega)
    unfold bigV;cases b
    · have HR : Hid (sgnI (sgn false (wv l)) = 1) := Lib.hid (by unfold sgnI; grind);clear hsg hz
      go_enter Tryz.func155, Tryz.ntmps155
      go_wp2
      go_ret
      exact ⟨ret_int HR.out.symm, (Below.refl _ _).alloc (Nat.le_refl _) _⟩
    · have HR : Hid (sgnI (sgn true (wv l)) = -1) := Lib.hid (by unfold sgnI; grind);clear hsg hz
      go_enter Tryz.func155, Tryz.ntmps155
      go_wp2
      go_ret
      exact ⟨ret_int HR.out.symm, (Below.refl _ _).alloc (Nat.le_refl _) _⟩

theorem isZero_any (v : Value) (z : Int) (w : World) (h : IV w v z) :
    Calls Tryz.prog 157 #[v] w fun e w' => e = .returned (.bool (decide (z = 0))) ∧ Below w.heap.size w w' := by
  have kq := mag_eql;have kq0 := mag_eql0;rcases h with ⟨rfl, hs⟩ | ⟨b, g, off, cap, l, rfl, hw, hl, rfl⟩
  · unfold smallV
    go_enter Tryz.func157, Tryz.ntmps157
    go_wp2
    go_ret
    exact ⟨ret_bool (by rw [Bool.eq_iff_iff]; simp), (Below.refl _ _).alloc (Nat.le_refl _) _⟩
  · have hn := (big_sgn (b := b) hl).1;have HR : Hid (decide (sgn b (wv l) = 0) = false) := Lib.hid (decide_eq_false fun e => hn (by rw [e]; unfold Small; omega));clear hn;unfold bigV
    go_enter Tryz.func157, Tryz.ntmps157
    go_wp2
    go_ret
    exact ⟨ret_bool HR.out.symm, (Below.refl _ _).alloc (Nat.le_refl _) _⟩

theorem isOne_any (v : Value) (z : Int) (w : World) (h : IV w v z) :
    Calls Tryz.prog 156 #[v] w fun e w' => e = .returned (.bool (decide (z = 1))) ∧ Below w.heap.size w w' := by
  have kq := mag_eql;have kq0 := mag_eql0;rcases h with ⟨rfl, hs⟩ | ⟨b, g, off, cap, l, rfl, hw, hl, rfl⟩
  · unfold smallV
    go_enter Tryz.func156, Tryz.ntmps156
    go_wp2
    go_ret
    exact ⟨ret_bool (by rw [Bool.eq_iff_iff]; simp), (Below.refl _ _).alloc (Nat.le_refl _) _⟩
  · have hn := (big_sgn (b := b) hl).1;have HR : Hid (decide (sgn b (wv l) = 1) = false) := Lib.hid (decide_eq_false fun e => hn (by rw [e]; unfold Small; omega));clear hn;unfold bigV
    go_enter Tryz.func156, Tryz.ntmps156
    go_wp2
    go_ret
    exact ⟨ret_bool HR.out.symm, (Below.refl _ _).alloc (Nat.le_refl _) _⟩

/-- a value that reads as z, and nothing else has changed -/
def GetsI (z : Int) (w : World) (e : Ending) (w' : World) : Prop := ∃ v, e = .returned v ∧ IV w' v z ∧ Below w.heap.size w w'
theorem neg_small {z : Int} (h : Small z) : Small (-z) := by unfold Small at *; omega
theorem sgn_neg (b : Bool) (n : Nat) : sgn (!b) n = -sgn b n := by cases b <;> simp [sgn]

theorem neg_any (v : Value) (z : Int) (w : World) (h : IV w v z) : Calls Tryz.prog 207 #[v] w (GetsI (-z) w) := by
  have kq := mag_eql;have kq0 := mag_eql0;rcases h with ⟨rfl, hs⟩ | ⟨b, g, off, cap, l, rfl, hw, hl, rfl⟩
  · have h1 : -9223372036854775807 ≤ z := hs.1;have h2 : z ≤ 9223372036854775807 := hs.2;unfold smallV
    go_enter Tryz.func207, Tryz.ntmps207
    go_wp2
    exact bodyPost_ret (v := smallV (-z)) (by simp [results, Tryz.results207, go_sem, smallV]) rfl ⟨_, rfl, small_iv _ (neg_small hs), ((Below.refl _ _).alloc (Nat.le_refl _) _).alloc (by simp) _⟩
  · unfold bigV
    go_enter Tryz.func207, Tryz.ntmps207
    go_wp2
    have hbl : Below w.heap.size w ((w.alloc (.cells #[.int .i64 0, .bool b, .slice (some ⟨g, off, none⟩) l.length cap] 155)).alloc (.cells #[.int .i64 0, .bool !b, .slice (some ⟨g, off, none⟩) l.length cap] 155)) :=
      ((Below.refl _ _).alloc (Nat.le_refl _) _).alloc (by simp) _
    exact bodyPost_ret (v := bigV (!b) (some ⟨g, off, none⟩) l.length cap) (by simp [results, Tryz.results207, go_sem, bigV]) rfl
      ⟨_, rfl, .inr ⟨!b, g, off, cap, l, rfl, hw.far hbl, hl, (sgn_neg b _).symm⟩, hbl⟩

theorem IV.alloc_of {w : World} {v : Value} {z : Int} (h : IV w v z) (o : Obj) : IV (w.alloc o) v z := h.far ((Below.refl _ _).alloc (Nat.le_refl _) _)
theorem IV.store {w : World} {v : Value} {z : Int} (h : IV w v z) {p : Addr} {cs : Array Value} {t : TypeId} {fr : Nat × Nat} (hp : w.heap[p.block]? = some (.cells cs t fr)) (ht : t ≠ 235) (u : Value) : IV (w.setCell p u) v z := by
  rcases h with h | ⟨b, g, off, cap, l, h1, h2, h3, h4⟩
  · exact .inl h
  · exact .inr ⟨b, g, off, cap, l, h1, h2.store hp ht u, h3, h4⟩
theorem heap_set {w : World} {R : Nat} {cs : Array Value} {t : TypeId} {fr : Nat × Nat} (h : w.heap[R]? = some (.cells cs t fr)) (i : Nat) (u : Value) : (w.setCell ⟨R, i, none⟩ u).heap[R]? = some (.cells (cs.setIfInBounds i u) t fr) := by
  simp [World.setCell, Array.getElem?_modify, h]
theorem heap_cell {w : World} {R : Nat} {cs : Array Value} {t : TypeId} {fr : Nat × Nat} (h : w.heap[R]? = some (.cells cs t fr)) (i : Nat) : w.cell? ⟨R, i, none⟩ = cs[i]? := cell_of_row w R i cs t fr h
theorem heap_fz {w : World} {R : Nat} {cs : Array Value} {t : TypeId} (h : w.heap[R]? = some (.cells cs t (0, 0))) (i : Nat) : w.frozen? ⟨R, i, none⟩ = false := by simp [World.frozen?, h]
/-- a value as the cells that hold it -/
theorem iv_form {w : World} {v : Value} {z : Int} (h : IV w v z) : ∃ s b ao n c, v = .agg #[.int .i64 s, .bool b, .slice ao n c] := by
  rcases h with ⟨rfl, _⟩ | ⟨b, g, off, cap, l, rfl, _⟩
  · exact ⟨_, _, _, _, _, rfl⟩
  · exact ⟨_, _, _, _, _, rfl⟩

theorem IV.set3 {w : World} {v : Value} {z : Int} (h : IV w v z) {R : Nat} {cs : Array Value} (hR : w.heap[R]? = some (.cells cs 155 (0, 0))) (x y u : Value) : IV (set3 w R x y u) v z :=
  ((h.store (p := ⟨R, 0, none⟩) hR (by decide) x).store (p := ⟨R, 1, none⟩) (heap_set hR 0 x) (by decide) y).store (p := ⟨R, 2, none⟩) (heap_set (heap_set hR 0 x) 1 y) (by decide) u
theorem new_second (w : World) (o o' : Obj) : ((w.alloc o).alloc o').heap[w.heap.size + 1]? = some o' := by
  have := heap_alloc_new (w.alloc o) o'
  simpa using this
theorem end_int {fn : Func} {t : Tmp} {a : Act} {w w2 : World} {R : Nat} {z s : Int} {b : Bool} {ao : Option Addr} {n c : Nat} {x0 x1 x2 : Value} (hres : fn.results = #[.cell t 155]) (hd : a.defers = []) (ht : a.tmps.getD t undef = .pointer (some ⟨R, 0, none⟩))
    (hR : w2.heap[R]? = some (.cells #[x0, x1, x2] 155 (0, 0))) (hv : IV w2 (.agg #[.int .i64 s, .bool b, .slice ao n c]) z) (hb : Below w.heap.size w w2) (hRB : w.heap.size ≤ R) :
    bodyPost Tryz.prog fn (GetsI z w) .ret a (((w2.setCell ⟨R, 0, none⟩ (.int .i64 s)).setCell ⟨R, 1, none⟩ (.bool b)).setCell ⟨R, 2, none⟩ (.slice ao n c)) := by
  have h3 := heap_set (heap_set (heap_set hR 0 (.int .i64 s)) 1 (.bool b)) 2 (.slice ao n c);have k0 := heap_cell h3 0;have k1 := heap_cell h3 1;have k2 := heap_cell h3 2;have hiv := hv.set3 hR (.int .i64 s) (.bool b) (.slice ao n c);have hbl := ((hb.setCell (show w.heap.size ≤ (⟨R, 0, none⟩ : Addr).block from hRB) (.int .i64 s)).setCell (show w.heap.size ≤ (⟨R, 1, none⟩ : Addr).block from hRB) (.bool b)).setCell (show w.heap.size ≤ (⟨R, 2, none⟩ : Addr).block from hRB) (.slice ao n c);unfold set3 at hiv;generalize ((w2.setCell ⟨R, 0, none⟩ (.int .i64 s)).setCell ⟨R, 1, none⟩ (.bool b)).setCell ⟨R, 2, none⟩ (.slice ao n c) = w3 at *;simp only [Array.setIfInBounds, Array.set, List.set, Array.size, List.length] at k0 k1 k2
  simp at k0 k1 k2
  refine bodyPost_ret (v := .agg #[.int .i64 s, .bool b, .slice ao n c]) ?_ hd ⟨_, rfl, hiv, hbl⟩;have ht' : a.tmps[t]?.getD undef = .pointer (some ⟨R, 0, none⟩) := by simpa using ht
  simp [results, hres, go_sem, ht', k0, k1, k2]

theorem min_words : wv [0, 2147483648] = 9223372036854775808 := by rw [wv_cons, wv_cons, wv_nil, BB_eq]
theorem min_sgn : sgn true (wv [0, 2147483648]) = -9223372036854775808 := by rw [min_words]; rfl
theorem min_big : Big [0, 2147483648] := by
  refine ⟨⟨Ws.cons BB_pos (Ws.cons (by rw [BB_eq]; omega) Ws.nil), fun x hx => by simp at hx; omega⟩, ?_, by simp⟩;rw [min_words]; unfold Small; omega
theorem fromInt64_any (z : Int) (w : World) (h1 : -9223372036854775808 ≤ z) (h2 : z ≤ 9223372036854775807) :
    Calls Tryz.prog 212 #[.int .i64 z] w (GetsI z w) := by
  by_cases hz : z = -9223372036854775808
  · have hzb : (z == -9223372036854775808) = true := by simp [hz]
    have HZ := Lib.hid hz;clear hz
    go_enter Tryz.func212, Tryz.ntmps212
    go_wp2
    have hbl : Below w.heap.size w ((w.alloc (.cells #[.int .i64 0, .bool true, .slice (some ⟨w.heap.size + 1, 0, none⟩) 2 2] 155)).alloc (.cells #[.int .u32 0, .int .u32 2147483648] 235)) :=
      ((Below.refl _ _).alloc (Nat.le_refl _) _).alloc (by simp) _
    have hws := WS.new (w.alloc (.cells #[.int .i64 0, .bool true, .slice (some ⟨w.heap.size + 1, 0, none⟩) 2 2] 155)) [0, 2147483648] min_big.1.1 (by simp)
    exact bodyPost_ret (v := bigV true (some ⟨w.heap.size + 1, 0, none⟩) 2 2) (by simp [results, Tryz.results212, go_sem, bigV]) rfl
      ⟨_, rfl, .inr ⟨true, w.heap.size + 1, 0, 2, [0, 2147483648], rfl, by simpa [u32s] using hws, min_big, by rw [HZ.out, min_sgn]⟩, hbl⟩
  · have hzb : (z == -9223372036854775808) = false := by simp [hz]
    have hs : Small z := by unfold Small; omega
    clear hz
    go_enter Tryz.func212, Tryz.ntmps212
    go_wp2
    exact bodyPost_ret (v := smallV z) (by simp [results, Tryz.results212, go_sem, smallV]) rfl ⟨_, rfl, small_iv _ hs, (Below.refl _ _).alloc (Nat.le_refl _) _⟩

theorem abs_any (v : Value) (z : Int) (w : World) (h : IV w v z) : Calls Tryz.prog 189 #[v] w (GetsI z.natAbs w) := by
  have hsg := fun (o o' : Obj) => sign_any v z ((w.alloc o).alloc o') ((h.alloc_of o).alloc_of o')
  have hng := fun (w' : World) (hb : Below w.heap.size w w') => neg_any v z w' (h.far hb)
  have HH := Lib.hid h;obtain ⟨s, b, ao, n, c, rfl⟩ := iv_form h;clear h
  by_cases hz : z < 0
  · have h1 : sgnI z = -1 := by unfold sgnI; rw [if_pos hz]
    rw [h1] at hsg;have HZ : Hid (-z = (z.natAbs : Int)) := Lib.hid (by omega);clear h1
    go_enter Tryz.func189, Tryz.ntmps189
    go_wp2_with fail
    refine (hsg _ _).mono ?_;rintro e w1 ⟨rfl, hb⟩;obtain ⟨hc, hf⟩ := bcell hb;have hz : w.heap.size + 1 < w1.heap.size := by have := hb.size; simp at this; omega
    have HB := Lib.hid (((Below.refl w.heap.size w).alloc (Nat.le_refl _) _).alloc (by simp) _ |>.trans (hb.mono (by simp; omega)));have HR := Lib.hid ((hb.block (w.heap.size + 1) (by simp)).trans (new_second w _ _));clear hb
    go_wp2_with fail
    refine (hng _ HB.out).mono ?_;rintro e w2 ⟨v2, rfl, hv2, hb2⟩;have HV2 := Lib.hid hv2;obtain ⟨s2, b2, a2, n2, c2, rfl⟩ := iv_form hv2;obtain ⟨hc2, hf2⟩ := bcell hb2;have HB2 := Lib.hid (HB.out.trans (hb2.mono HB.out.size));have HR2 := Lib.hid ((hb2.block (w.heap.size + 1) hz).trans HR.out);clear hb2 hv2
    go_wp2
    rw [← HZ.out];exact end_int Tryz.results189 rfl rfl HR2.out HV2.out HB2.out (by omega)
  · have h1 : ¬ sgnI z < 0 := by unfold sgnI; grind
    have HZ : Hid (z = (z.natAbs : Int)) := Lib.hid (by omega)
    go_enter Tryz.func189, Tryz.ntmps189
    go_wp2_with fail
    refine (hsg _ _).mono ?_;rintro e w1 ⟨rfl, hb⟩;obtain ⟨hc, hf⟩ := bcell hb;have hz : w.heap.size + 1 < w1.heap.size := by have := hb.size; simp at this; omega
    have HB := Lib.hid (((Below.refl w.heap.size w).alloc (Nat.le_refl _) _).alloc (by simp) _ |>.trans (hb.mono (by simp; omega)));have HR := Lib.hid ((hb.block (w.heap.size + 1) (by simp)).trans (new_second w _ _));clear hb
    go_wp2
    rw [← HZ.out];exact end_int Tryz.results189 rfl rfl HR.out (HH.out.far HB.out) HB.out (by omega)

end
end Go.Proofs.YtapdbeaoakcjeaaGreatDoor
namespace Go.Proofs.YtapdbeaoakcjeaaGreatDoor
open Go.RowKit Nmx

theorem sgn_small {b : Bool} {n : Nat} (h : n ≤ 9223372036854775807) : Small (sgn b n) := by unfold Small; cases b <;> simp [sgn] <;> omega

end Go.Proofs.YtapdbeaoakcjeaaGreatDoor
namespace Go.Proofs.YtapdbeaoakcjeaaGreatDoor
open Go.RowKit Nmx

/-- words elsewhere, below where the call began, read as they did -/
theorem WS.keep {w w' : World} {ao : Option Addr} {g off cap : Nat} {l : List Nat} (h : WS w ao g off cap l) (hb : Below w.heap.size w w') {i : Nat} (hi : i < l.length) : w'.cell? ⟨g, off + i, none⟩ = some (.int .u32 ((l.getD i 0 : Nat) : Int)) :=
  (h.far hb).at_ i hi
end Go.Proofs.YtapdbeaoakcjeaaGreatDoor
namespace Go.Proofs.YtapdbeaoakcjeaaGreatDoor
open Go.RowKit Nmx

end Go.Proofs.YtapdbeaoakcjeaaGreatDoor
namespace Go.Proofs.YtapdbeaoakcjeaaGreatDoor
open Go.RowKit Nmx

end Go.Proofs.YtapdbeaoakcjeaaGreatDoor
/- Int.Add of package exact. -/
namespace Go.Proofs.YtapdbeaoakcjeaaGreatDoor
open Go.RowKit Nmx

theorem new_third (w : World) (o o' o2 : Obj) : (((w.alloc o).alloc o').alloc o2).heap[w.heap.size + 2]? = some o2 := by
  have := heap_alloc_new ((w.alloc o).alloc o') o2
  simpa using this
theorem below3 (w : World) (o o' o2 : Obj) : Below w.heap.size w (((w.alloc o).alloc o').alloc o2) := (((Below.refl w.heap.size w).alloc (Nat.le_refl _) _).alloc (by simp) _).alloc (by simp; omega) _
end Go.Proofs.YtapdbeaoakcjeaaGreatDoor

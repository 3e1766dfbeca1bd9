/- Plain words about the texts of integers and of numbers: no program. -/
import Derived.Test.YtgehimcngljmnaaGreatDoorA
namespace Nmx

def decI (z : Int) : List UInt8 := if z < 0 then 45 :: decN z.natAbs else decN z.natAbs
def textQ (q : Rat) : List UInt8 := decI q.num ++ (if q.den = 1 then [] else 47 :: decN q.den)

/-- is there a minus ahead; what stands behind it -/
def sgB (l : List UInt8) : Bool := l.head? == some 45
def body (l : List UInt8) : List UInt8 := if sgB l then l.tail else l
def sgn (b : Bool) (n : Nat) : Int := if b then -(n : Int) else n
/-- an integer, leading zeros and '-0' permitted -/
def intF (l : List UInt8) : Option Int := if body l = [] ∨ (body l).all isD = false then none else some (sgn (sgB l) (dv (body l)))
/-- an integer in its canonical form -/
def canonF (l : List UInt8) : Option Int := if body l = [] ∨ ((body l).headD 0 = 48 ∧ l ≠ [48]) then none else intF l

theorem decN_cons (n : Nat) : ∃ c r, decN n = c :: r ∧ isD c = true := by
  have h1 := decN_ne n
  have h2 := decN_digits n
  match hd : decN n, h1 with
  | c :: r, _ => rw [hd, List.all_cons, Bool.and_eq_true] at h2; exact ⟨c, r, rfl, h2.1⟩
theorem sgB_decN (n : Nat) : sgB (decN n) = false := by
  obtain ⟨c, r, h1, h2⟩ := decN_cons n
  rw [h1]
  unfold sgB
  have h3 := isD_iff.1 h2
  simp only [List.head?_cons, beq_eq_false_iff_ne, ne_eq, Option.some.injEq]
  intro e; subst e
  have : (45 : UInt8).toNat = 45 := rfl
  omega
theorem sgB_decI (z : Int) : sgB (decI z) = decide (z < 0) := by
  unfold decI
  split
  · rename_i h; simp [sgB, h]
  · rename_i h; rw [sgB_decN]; simp [h]
theorem body_decI (z : Int) : body (decI z) = decN z.natAbs := by
  unfold body
  rw [sgB_decI]
  unfold decI
  split
  · rename_i h; rw [if_pos (by simpa using h)]; rfl
  · rename_i h; rw [if_neg (by simpa using h)]
theorem decN_zero : decN 0 = [48] := by rw [decN_small (by omega)]; rfl
theorem decI_zero : decI 0 = [48] := decN_zero
theorem intF_decI (z : Int) : intF (decI z) = some z := by
  unfold intF
  rw [body_decI, if_neg (by rintro (h | h); exact decN_ne _ h; rw [decN_digits] at h; cases h), dv_decN, sgB_decI]
  unfold sgn
  congr 1
  by_cases h : z < 0
  · rw [if_pos (by simpa using h)]; omega
  · rw [if_neg (by simpa using h)]; omega
theorem canonF_decI (z : Int) : canonF (decI z) = some z := by
  unfold canonF
  rw [if_neg, intF_decI]
  rw [body_decI]
  rintro (h | ⟨h1, h2⟩)
  · exact decN_ne _ h
  · by_cases h0 : z.natAbs = 0
    · apply h2
      have : z = 0 := by omega
      subst this; exact decI_zero
    · exact decN_head _ h0 h1
theorem decI_inj {a b : Int} (h : decI a = decI b) : a = b := by
  have := canonF_decI a
  rw [h, canonF_decI] at this
  exact (Option.some.inj this).symm
theorem decI_nat (n : Nat) : decI (n : Int) = decN n := by unfold decI; rw [if_neg (by omega), Int.natAbs_natCast]
theorem decI_neg (n : Nat) (h : 0 < n) : decI (-(n : Int)) = 45 :: decN n := by unfold decI; rw [if_pos (by omega), Int.natAbs_neg, Int.natAbs_natCast]
theorem canonF_some {l : List UInt8} {z : Int} (h : canonF l = some z) : decI z = l := by
  unfold canonF at h
  split at h
  · cases h
  · rename_i hn
    unfold intF at h
    split at h
    · cases h
    · rename_i hi
      cases h
      have hb : body l ≠ [] := fun e => hi (.inl e)
      have hd : (body l).all isD = true := by
        cases e : (body l).all isD with
        | true => rfl
        | false => exact absurd (.inr e) hi
      by_cases h48 : (body l).headD 0 = 48
      · have hl : l = [48] := Decidable.byContradiction fun e => hn (.inr ⟨h48, e⟩)
        subst hl; decide +kernel
      · have hc := canon_eq ⟨hd, hb, .inr h48⟩
        have hp := dv_pos hd hb h48
        have hp1 : 0 < 10 ^ ((body l).length - 1) := Nat.pow_pos (by omega)
        cases hs : sgB l with
        | true =>
          show decI (-(dv (body l) : Int)) = l
          rw [decI_neg _ (by omega), hc]
          unfold body; rw [hs, if_pos rfl]
          match l, hs with
          | c :: r, hs => simp [sgB] at hs; subst hs; rfl
          | [], hs => cases hs
        | false =>
          show decI (dv (body l) : Int) = l
          rw [decI_nat, hc]
          unfold body; rw [hs]; rfl
theorem canonF_iff {l : List UInt8} {z : Int} : canonF l = some z ↔ decI z = l := ⟨canonF_some, fun h => by rw [← h, canonF_decI]⟩

/-- what stands before the first slash, and what stands behind it -/
def upto (l : List UInt8) : List UInt8 := l.takeWhile (· != 47)
def behind (l : List UInt8) : List UInt8 := (l.dropWhile (· != 47)).drop 1
def ratF (l : List UInt8) : Option Rat :=
  if l.contains 47 = false then Option.map (fun z : Int => (z : Rat)) (canonF l)
  else match canonF (upto l), canonF (behind l) with
    | some n, some d => if h : 1 < d ∧ n ≠ 0 ∧ n.natAbs.gcd d.natAbs = 1 then some ⟨n, d.natAbs, by omega, h.2.2⟩ else none
    | _, _ => none

theorem decN_no (n : Nat) (c : UInt8) (hc : isD c = false) : ∀ x ∈ decN n, (x != c) = true := by
  intro x hx
  have := List.all_eq_true.1 (decN_digits n) x hx
  rw [bne_iff_ne]
  intro e; subst e; rw [hc] at this; cases this
theorem decI_no47 (z : Int) : ∀ x ∈ decI z, (x != 47) = true := by
  unfold decI
  intro x hx
  split at hx
  · rw [List.mem_cons] at hx
    rcases hx with rfl | hx
    · rfl
    · exact decN_no _ 47 (by decide) x hx
  · exact decN_no _ 47 (by decide) x hx
theorem contains_no {l : List UInt8} (h : ∀ x ∈ l, (x != 47) = true) : l.contains 47 = false := by
  rw [Bool.eq_false_iff]
  intro hc
  exact absurd (h 47 (by simpa using hc)) (by decide)
theorem cut_at {a b : List UInt8} (h : ∀ x ∈ a, (x != 47) = true) : upto (a ++ 47 :: b) = a ∧ behind (a ++ 47 :: b) = b ∧ (a ++ 47 :: b).contains 47 = true := by
  refine ⟨?_, ?_, by simp⟩
  · unfold upto; rw [List.takeWhile_append_of_pos h, List.takeWhile_cons]; simp
  · unfold behind; rw [List.dropWhile_append_of_pos h, List.dropWhile_cons]; simp
theorem cut_back {l : List UInt8} (h : l.contains 47 = true) : l = upto l ++ 47 :: behind l := by
  induction l with
  | nil => simp at h
  | cons c r ih =>
    by_cases hc : c = 47
    · subst hc; rfl
    · have hr : r.contains 47 = true := by
        rw [List.contains_cons] at h
        rcases (Bool.or_eq_true _ _).mp h with h | h
        · exact absurd (by simpa using h) (fun e : 47 = c => hc e.symm)
        · exact h
      have hb : (c != 47) = true := by simpa using hc
      unfold upto behind
      rw [List.takeWhile_cons, if_pos hb, List.dropWhile_cons, if_pos hb]
      exact congrArg (c :: ·) (ih hr)
theorem ratF_text (q : Rat) : ratF (textQ q) = some q := by
  unfold textQ ratF
  by_cases h : q.den = 1
  · rw [if_pos h, List.append_nil, if_pos (contains_no (decI_no47 _)), canonF_decI]
    simp only [Option.map_some, Option.some.injEq]
    exact Rat.ext rfl h.symm
  · rw [if_neg h]
    obtain ⟨h1, h2, h3⟩ := cut_at (b := decN q.den) (decI_no47 q.num)
    rw [if_neg (by rw [h3]; simp), h1, h2, canonF_decI]
    have h4 : canonF (decN q.den) = some (q.den : Int) := by
      rw [canonF_iff]; unfold decI; rw [if_neg (by omega), Int.natAbs_natCast]
    rw [h4]
    have hz := q.den_nz
    have hred := q.reduced
    have hnum : q.num ≠ 0 := by
      intro e
      rw [e] at hred
      simp [Nat.Coprime] at hred
      exact h hred
    simp only
    rw [dif_pos ⟨by omega, hnum, by rw [Int.natAbs_natCast]; exact hred⟩]
    congr 1
theorem textQ_int (z : Int) : textQ (z : Rat) = decI z := by unfold textQ; rw [if_pos (Rat.den_intCast z), List.append_nil, Rat.num_intCast]
theorem ratF_some {l : List UInt8} {q : Rat} (h : ratF l = some q) : textQ q = l := by
  unfold ratF at h
  split at h
  · rename_i hc
    obtain ⟨z, hz, rfl⟩ := Option.map_eq_some_iff.1 h
    rw [textQ_int]
    exact canonF_some hz
  · rename_i hc
    have hc' : l.contains 47 = true := by simpa using hc
    split at h
    · rename_i n d hn hd
      split at h
      · rename_i hh
        cases h
        have h1 := canonF_some hn
        have h2 := canonF_some hd
        unfold decI at h2
        rw [if_neg (by omega)] at h2
        unfold textQ
        simp only
        rw [if_neg (by omega), h1, h2]
        exact (cut_back hc').symm
      · cases h
    · cases h
theorem ratF_iff {l : List UInt8} {q : Rat} : ratF l = some q ↔ textQ q = l := ⟨ratF_some, fun h => by rw [← h, ratF_text]⟩
theorem textQ_inj {p q : Rat} (h : textQ p = textQ q) : p = q := by
  have := ratF_text p
  rw [h, ratF_text] at this
  exact (Option.some.inj this).symm
theorem textQ_ne (q : Rat) : textQ q ≠ [] := by
  unfold textQ decI
  have := decN_ne q.num.natAbs
  split <;> simp [this]
/-- the text of the answer, if there is one -/
def txt : Option Rat → List UInt8
  | some q => textQ q
  | none => []
def on1 (f : Rat → Option Rat) (a : List UInt8) : List UInt8 := txt ((ratF a).bind f)
def on2 (f : Rat → Rat → Option Rat) (a b : List UInt8) : List UInt8 := txt ((ratF a).bind fun x => (ratF b).bind fun y => f x y)
theorem ratF_zero : ratF [48] = some 0 := by
  rw [ratF_iff]
  have := textQ_int 0
  rw [decI_zero] at this; exact this
theorem ratF_nil : ratF [] = none := by decide +kernel
end Nmx

/- Plain words about bytes, words and items: no program. -/
namespace Sx

def dig (c : UInt8) : Bool := decide (48 ≤ c.toNat) && decide (c.toNat ≤ 57)
def let1 (c : UInt8) : Bool := (decide (97 ≤ c.toNat) && decide (c.toNat ≤ 122)) || (decide (65 ≤ c.toNat) && decide (c.toNat ≤ 90))
def marks : List UInt8 := [126, 33, 64, 36, 37, 94, 38, 42, 95, 45, 43, 61, 60, 62, 46, 63, 47, 58]
def wb (c : UInt8) : Bool := dig c || let1 c || marks.contains c
def numeral (l : List UInt8) : Bool := l.all dig && (l == [48] || (l != [] && l.headD 0 != 48))
/-- what stands before the first point, and what stands behind it -/
def upto (l : List UInt8) : List UInt8 := l.takeWhile (· != 46)
def behind (l : List UInt8) : List UInt8 := (l.dropWhile (· != 46)).drop 1
def decimal (l : List UInt8) : Bool := l.contains 46 && numeral (upto l) && behind l != [] && (behind l).all dig
def wkind (l : List UInt8) : Int :=
  if l = [] then 0 else if dig (l.headD 0) = false then 1 else if numeral l then 2 else if decimal l then 3 else 0

/-- how many bytes 'skip' passes, inside a comment or not -/
def skipN : Bool → List UInt8 → Nat
  | _, [] => 0
  | cm, c :: r =>
    if c.toNat = 10 then 1 + skipN false r
    else if cm then 1 + skipN true r
    else if c.toNat = 59 then 1 + skipN true r
    else if c.toNat ≠ 32 ∧ c.toNat ≠ 9 ∧ c.toNat ≠ 13 then 0
    else 1 + skipN false r
theorem skipN_le (l : List UInt8) : ∀ cm, skipN cm l ≤ l.length := by
  induction l with
  | nil => intro cm; simp [skipN]
  | cons c r ih =>
    intro cm
    have a := ih false
    have b := ih true
    simp only [skipN, List.length_cons]
    repeat' split
    all_goals omega
/-- what a string in quotes denotes, and how many bytes it takes behind the opening quote; nothing if it is not closed or holds a forbidden byte -/
def textN : List UInt8 → Option (List UInt8 × Nat)
  | [] => none
  | [c] => if c.toNat = 34 then some ([], 1) else none
  | c :: d :: r =>
    if c.toNat = 34 then (if d.toNat = 34 then (textN r).map fun x => (34 :: x.1, x.2 + 2) else some ([], 1))
    else if c.toNat < 32 ∨ 126 < c.toNat then none else (textN (d :: r)).map fun x => (c :: x.1, x.2 + 1)
theorem textN_le : ∀ (n : Nat) (l : List UInt8), l.length ≤ n → ∀ x, textN l = some x → x.2 ≤ l.length ∧ x.1.length ≤ l.length := by
  intro n
  induction n with
  | zero => intro l hl x h; cases l with
    | nil => simp [textN] at h
    | cons a r => simp at hl
  | succ n ih =>
    intro l hl x h
    match l, hl, h with
    | [], _, h => simp [textN] at h
    | [c], _, h =>
      simp only [textN] at h
      split at h
      · cases h; simp
      · cases h
    | c :: d :: r, hl, h =>
      simp only [textN] at h
      split at h
      · split at h
        · simp only [Option.map_eq_some_iff] at h
          obtain ⟨y, hy, rfl⟩ := h
          have := ih r (by simp at hl; omega) y hy
          simp only [List.length_cons]; omega
        · cases h; simp
      · split at h
        · cases h
        · simp only [Option.map_eq_some_iff] at h
          obtain ⟨y, hy, rfl⟩ := h
          have := ih (d :: r) (by simp at hl ⊢; omega) y hy
          simp only [List.length_cons] at *; omega
end Sx

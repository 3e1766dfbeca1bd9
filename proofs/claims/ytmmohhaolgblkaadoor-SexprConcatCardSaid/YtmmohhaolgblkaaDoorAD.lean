/- Valid lists of items, with their texts, in plain words. -/
import Derived.Test.YtmmohhaolgblkaaDoorAB
namespace Go.Proofs.YtmmohhaolgblkaaDoor
open Go.RowKit

def printable (l : List UInt8) : Bool := l.all fun c => decide (32 ≤ c.toNat) && decide (c.toNat ≤ 126)
/-- what an item that is no list may be -/
def leafOk (kind : Int) (l : List UInt8) : Bool := (kind == 4 && printable l) || ((kind == 1 || kind == 2 || kind == 3) && l.all Sx.wb && Sx.wkind l == kind)
def quoted (l : List UInt8) : List UInt8 := l.flatMap fun c => if c.toNat = 34 then [34, 34] else [c]
def leafText (kind : Int) (l : List UInt8) : List UInt8 := if kind = 4 then 34 :: (quoted l ++ [34]) else l
/-- the texts with a blank between two -/
def joined : List (List UInt8) → List UInt8
  | [] => []
  | [t] => t
  | t :: u :: r => t ++ 32 :: joined (u :: r)
def listText (us : List (List UInt8)) : List UInt8 := 40 :: (joined us ++ [41])

/-- 'its' is a sequence of items whose lists are nested d deep at most; 'ts': the text of each item of the sequence itself -/
inductive For : Nat → List It → List (List UInt8) → Prop
  | nil (d : Nat) : For d [] []
  | leaf {d : Nat} {kind pos : Int} {text : ByteArray} {its : List It} {ts : List (List UInt8)} (hk : leafOk kind text.data.toList = true) (h : For d its ts) : For d (⟨kind, text, 0, pos⟩ :: its) (leafText kind text.data.toList :: ts)
  | list {d : Nat} {pos : Int} {sub its : List It} {us ts : List (List UInt8)} (hs : For d sub us) (h : For (d + 1) its ts) : For (d + 1) (⟨5, ⟨#[]⟩, us.length, pos⟩ :: (sub ++ its)) (listText us :: ts)

theorem For.append {d : Nat} {a b : List It} {ts us : List (List UInt8)} (h : For d a ts) (h2 : For d b us) : For d (a ++ b) (ts ++ us) := by
  induction h with
  | nil d => exact h2
  | leaf hk _ ih => exact .leaf hk (ih h2)
  | list hs _ _ ih =>
    rw [List.cons_append, List.append_assoc]
    exact .list hs (ih h2)
theorem For.succ {d : Nat} {a : List It} {ts : List (List UInt8)} (h : For d a ts) : For (d + 1) a ts := by
  induction h with
  | nil d => exact .nil _
  | leaf hk _ ih => exact .leaf hk ih
  | list hs h ih1 ih2 => exact .list ih1 ih2
theorem For.len {d : Nat} {a : List It} {ts : List (List UInt8)} (h : For d a ts) : ts.length ≤ a.length := by
  induction h with
  | nil d => simp
  | leaf hk _ ih => simp; exact ih
  | list hs h ih1 ih2 => simp; omega
theorem For.one_ne {d : Nat} {a : List It} {t : List UInt8} (h : For d a [t]) : 0 < a.length := by have := h.len; simp at this; omega

/-- how many items, and how many bytes, the choices make at depth d -/
def NB : Nat → Nat
  | 0 => 1
  | d + 1 => 1 + 3 * NB d
def TB : Nat → Nat
  | 0 => 12
  | d + 1 => 2 + 3 * (TB d + 1)
theorem NB_pos (d : Nat) : 1 ≤ NB d := by cases d <;> simp [NB]
theorem NB_le {d : Nat} (h : d ≤ 4) : NB d ≤ 121 := by
  match d, h with
  | 0, _ => decide
  | 1, _ => decide
  | 2, _ => decide
  | 3, _ => decide
  | 4, _ => decide
theorem TB_le {d : Nat} (h : d ≤ 4) : TB d ≤ 2000 := by
  match d, h with
  | 0, _ => decide
  | 1, _ => decide
  | 2, _ => decide
  | 3, _ => decide
  | 4, _ => decide
theorem TB_ge (d : Nat) : 12 ≤ TB d := by
  induction d with
  | zero => simp [TB]
  | succ d ih => simp [TB]; omega
theorem joined_len (b : Nat) : ∀ us : List (List UInt8), (∀ u ∈ us, u.length ≤ b) → (joined us).length ≤ us.length * (b + 1)
  | [], _ => by simp [joined]
  | [t], h => by have := h t (by simp); simp only [joined, List.length_singleton]; omega
  | t :: u :: r, h => by
    have h1 := h t (by simp)
    have h2 := joined_len b (u :: r) (fun v hv => h v (by simp only [List.mem_cons] at hv ⊢; exact .inr hv))
    have e : (joined (t :: u :: r)).length = t.length + (1 + (joined (u :: r)).length) := by simp only [joined, List.length_append, List.length_cons]; omega
    rw [e, List.length_cons, Nat.succ_mul]
    omega
theorem listText_len {d : Nat} {us : List (List UInt8)} (h : ∀ u ∈ us, u.length ≤ TB d) (h3 : us.length ≤ 3) : (listText us).length ≤ TB (d + 1) := by
  have := joined_len (TB d) us h
  have h4 : us.length * (TB d + 1) ≤ 3 * (TB d + 1) := Nat.mul_le_mul_right _ h3
  simp only [listText, List.length_cons, List.length_append, List.length_nil, TB]
  omega
end Go.Proofs.YtmmohhaolgblkaaDoor

/- The reference's Parse: what its loop carries, in plain words. -/
import Derived.Test.YtmmohhaolgblkaaDoorL
namespace Go.Proofs.YtmmohhaolgblkaaDoor
open Go.RowKit

theorem skipTo_stop (s : ByteArray) (k : Nat) (h : k < s.size) (h1 : s[k].toNat ≠ 10) (h2 : s[k].toNat ≠ 59) (h3 : s[k].toNat ≠ 32 ∧ s[k].toNat ≠ 9 ∧ s[k].toNat ≠ 13) : skipTo s k = k := by
  unfold skipTo
  rw [skip_step s k false h, if_neg h1, if_neg (by decide), if_neg h2, if_pos h3]; rfl
theorem skipTo_white (s : ByteArray) (k : Nat) (h : k < s.size) (h1 : s[k].toNat = 32 ∨ s[k].toNat = 9 ∨ s[k].toNat = 13 ∨ s[k].toNat = 10) : skipTo s k = skipTo s (k + 1) := by
  unfold skipTo
  rw [skip_step s k false h]
  by_cases h10 : s[k].toNat = 10
  · rw [if_pos h10]; omega
  · rw [if_neg h10, if_neg (by decide), if_neg (by omega), if_neg (by omega)]; omega
theorem skipTo_ge (s : ByteArray) (k : Nat) : k ≤ skipTo s k := by unfold skipTo; omega

/-- a comment: where its loop stands -/
def ComRel (s : ByteArray) (p k : Nat) : Prop := k + Sx.skipN true (s.data.toList.drop k) = skipTo s p
theorem com_start (s : ByteArray) (p : Nat) (h : p < s.size) (hc : s[p].toNat = 59) : ComRel s p p := by
  unfold ComRel skipTo
  rw [skip_step s p true h, skip_step s p false h]
  simp [hc]
theorem com_step {s : ByteArray} {p k : Nat} (hr : ComRel s p k) (h : k < s.size) (hc : s[k].toNat ≠ 10) : ComRel s p (k + 1) := by
  unfold ComRel at *
  rw [skip_step s k true h, if_neg hc, if_pos rfl] at hr; omega
theorem com_line {s : ByteArray} {p k : Nat} (hr : ComRel s p k) (h : k < s.size) (hc : s[k].toNat = 10) : skipTo s k = skipTo s p := by
  unfold ComRel at hr
  rw [← hr]
  unfold skipTo
  rw [skip_step s k true h, skip_step s k false h, if_pos hc, if_pos hc]
theorem com_end {s : ByteArray} {p k : Nat} (hr : ComRel s p k) (h : ¬ k < s.size) : skipTo s k = skipTo s p := by
  unfold ComRel at hr
  rw [← hr]
  unfold skipTo
  rw [drop_end s k h]; rfl

/-- where the loop stands: behind the items 'its', with the lists 'op' open -/
def PRel (s : ByteArray) (k : Nat) (its : List It) (op : List Nat) : Prop :=
  ∃ n, s.size - skipTo s k < n ∧ parseLoop s n ⟨skipTo s k, its, op⟩ = parseLoop s (s.size + 1) ⟨skipTo s 0, [], []⟩
theorem prel_start (s : ByteArray) : PRel s 0 [] [] := ⟨s.size + 1, by omega, rfl⟩
theorem prel_move {s : ByteArray} {k k' : Nat} {its : List It} {op : List Nat} (h : PRel s k its op) (e : skipTo s k = skipTo s k') : PRel s k' its op := by
  unfold PRel at *; rw [← e]; exact h
theorem prel_item {s : ByteArray} {k : Nat} {its : List It} {op : List Nat} (h : PRel s k its op) (hk : k < s.size) (hs : skipTo s k = k) {x : PSt} (e : itemF s ⟨k, its, op⟩ = .ok x) : PRel s x.pos x.its x.op := by
  obtain ⟨n, hn, hp⟩ := h
  rw [hs] at hn hp
  obtain ⟨n, rfl⟩ : ∃ n', n = n' + 1 := ⟨n - 1, by omega⟩
  have := item_pos s k its op hk x e
  have := skipTo_ge s x.pos
  refine ⟨n, by omega, ?_⟩
  rw [← hp]; simp only [parseLoop]; rw [if_pos hk, e]
theorem prel_err {s : ByteArray} {k : Nat} {its : List It} {op : List Nat} (h : PRel s k its op) (hk : k < s.size) (hs : skipTo s k = k) {a : Nat} {q : Int} (e : itemF s ⟨k, its, op⟩ = .error (a, q)) (hz : ¬ 65536 < s.size) : parseT s = ([], a, q) := by
  obtain ⟨n, hn, hp⟩ := h
  rw [hs] at hn hp
  obtain ⟨n, rfl⟩ : ∃ n', n = n' + 1 := ⟨n - 1, by omega⟩
  unfold parseT; rw [if_neg hz]; unfold parseF
  rw [← hp]; simp only [parseLoop]; rw [if_pos hk, e]
theorem prel_end {s : ByteArray} {k : Nat} {its : List It} {op : List Nat} (h : PRel s k its op) (hk : ¬ k < s.size) (hz : ¬ 65536 < s.size) : parseT s = if op = [] then (its, 0, 0) else ([], s.size, 2) := by
  obtain ⟨n, hn, hp⟩ := h
  have hs := skipTo_ge s k
  obtain ⟨n, rfl⟩ : ∃ n', n = n' + 1 := ⟨n - 1, by omega⟩
  unfold parseT; rw [if_neg hz]; unfold parseF
  rw [← hp]; simp only [parseLoop]; rw [if_neg (by omega)]
theorem Good.mono {p q : Nat} {its : List It} {op : List Nat} (h : Good p its op) (hq : p ≤ q) : Good q its op := ⟨h.inop, h.kids, Nat.le_trans h.few hq, h.opn⟩
end Go.Proofs.YtmmohhaolgblkaaDoor

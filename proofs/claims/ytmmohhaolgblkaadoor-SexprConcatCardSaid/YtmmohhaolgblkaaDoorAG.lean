/- The choices' lists of items. -/
import Derived.Test.YtmmohhaolgblkaaDoorAC
import Derived.Test.YtmmohhaolgblkaaDoorAD
import Derived.Test.YtmmohhaolgblkaaDoorL
namespace Go.Proofs.YtmmohhaolgblkaaDoor
open Go.RowKit

/-- a slice of one item, just made -/
theorem one_row (w : World) (x : It) (b : Nat) (hb : b ≤ w.heap.size) : (w.alloc (.cells x.cells.toArray 31 (0, 0))).ownsRow b 31 4 (.slice (some ⟨w.heap.size, 0, none⟩) 1 1) 1 (flat [x]) :=
  ⟨by rw [flat_len]; rfl, .inr ⟨w.heap.size, 1, x.cells.toArray, rfl, hb, heap_alloc_new w _, Nat.le_refl _, by unfold maxLen; omega, rfl, by simp [flat, It.cells]⟩⟩
theorem grown_alloc {w w1 : World} {r : Option Nat} (h : w.grownBy w1 r) (o : Obj) : w.grownBy (w1.alloc o) r := grown_trans h (World.grownBy_alloc w1 o r)
theorem grown_new {w w1 : World} {r : Option Nat} (h : w.grownBy w1 r) {g : Nat} (hg : w.heap.size ≤ g) (j : Nat) (v : Value) : w.grownBy (w1.setCell ⟨g, j, none⟩ v) r :=
  ⟨h.os, h.tape, h.output, by simpa [World.setCell] using h.size, fun k hk hr => by rw [Below.heap_setCell _ _ _ _ (by show k ≠ g; omega)]; exact h.block k hk hr⟩
theorem below_grown {w w1 : World} {r : Option Nat} (h : Below w.heap.size w w1) : w.grownBy w1 r := ⟨h.os, h.tape, h.output, h.size, fun k hk _ => h.block k hk⟩
theorem Ch.alloc {C : Nat} {ao : Option Addr} {n cap : Nat} {w : World} (h : Ch C ao n cap w) (o : Obj) : Ch C ao n cap (w.alloc o) := h.grown (World.grownBy_alloc w o none) (by simp)
theorem Ch.below {C : Nat} {ao : Option Addr} {n cap : Nat} {w w' : World} (h : Ch C ao n cap w) (hb : Below w.heap.size w w') : Ch C ao n cap w' := h.grown (below_grown (r := none) hb) (by simp)

structure Made (C : Nat) (ao : Option Addr) (n cap d : Nat) (w w' : World) (v : Value) (its : List It) (t : List UInt8) : Prop where
  tree : For d its [t]
  few : its.length ≤ NB d
  short : t.length ≤ TB d
  texts : ∀ x ∈ its, x.text.size ≤ 100
  row : w'.ownsRow w.heap.size 31 4 v its.length (flat its)
  ch : Ch C ao n cap w'
  grown : w.grownBy w' (some C)
def ItemsPost (C : Nat) (ao : Option Addr) (n cap d : Nat) (w : World) (e : Ending) (w' : World) : Prop := ∃ v its t, e = .returned v ∧ Made C ao n cap d w w' v its t

/-- one item that is no list -/
theorem Made.leaf {C : Nat} {ao : Option Addr} {n cap d : Nat} {w w1 : World} (hch : Ch C ao n cap w1) (hg : w.grownBy w1 (some C)) {kind : Int} {text : ByteArray} (hk : leafOk kind text.data.toList = true) (hl : (leafText kind text.data.toList).length ≤ 12) (ht : text.size ≤ 100) :
    Made C ao n cap d w (w1.alloc (.cells #[.int .i64 kind, .string text, .int .i64 0, .int .i64 0] 31)) (.slice (some ⟨w1.heap.size, 0, none⟩) 1 1) [⟨kind, text, 0, 0⟩] (leafText kind text.data.toList) :=
  ⟨.leaf hk (.nil d), NB_pos d, Nat.le_trans hl (TB_ge d), by simpa using ht, one_row w1 ⟨kind, text, 0, 0⟩ _ hg.size, hch.alloc _, grown_alloc hg _⟩
theorem Made.post {C : Nat} {ao : Option Addr} {n cap d : Nat} {w w' : World} {v : Value} {its : List It} {t : List UInt8} (h : Made C ao n cap d w w' v its t) : ItemsPost C ao n cap d w (.returned v) w' := ⟨v, its, t, rfl, h⟩

theorem leaf_num (r : Nat) (hr : r < 1048576) : leafOk 2 (⟨(decN r).toArray⟩ : ByteArray).data.toList = true ∧ (leafText 2 (⟨(decN r).toArray⟩ : ByteArray).data.toList).length ≤ 12 ∧ (⟨(decN r).toArray⟩ : ByteArray).size ≤ 100 := by
  have hl := decN_len 6 r (by omega)
  have hn := decN_numeral r
  have hd := decN_digits r
  have hw : (decN r).all Sx.wb = true := by
    rw [List.all_eq_true] at hd ⊢
    intro c hc; simp [Sx.wb, hd c hc]
  have hk : Sx.wkind (decN r) = 2 := by
    have hne := decN_ne r
    have h0 : Sx.dig ((decN r).headD 0) = true := by
      cases e : decN r with
      | nil => exact absurd e hne
      | cons c l => rw [e] at hd; simp at hd; simpa using hd.1
    unfold Sx.wkind
    rw [if_neg hne, if_neg (by simp only [h0]; decide), if_pos hn]
  refine ⟨?_, ?_, ?_⟩
  · simp [leafOk, hw, hk]
  · show (if (2 : Int) = 4 then _ else decN r).length ≤ 12; rw [if_neg (by decide)]; omega
  · show (decN r).toArray.size ≤ 100; simp; omega
theorem decN_nopoint (r : Nat) : ∀ c ∈ decN r, (c != 46) = true := by
  intro c hc
  have := List.all_eq_true.1 (decN_digits r) c hc
  rw [bne_iff_ne]
  intro e; subst e; exact absurd this (by decide)
theorem leaf_dec (a b : Nat) (ha : a < 50) (hb : b < 100) : leafOk 3 (decN a ++ 46 :: decN b) = true ∧ (leafText 3 (decN a ++ 46 :: decN b)).length ≤ 12 ∧ (decN a ++ 46 :: decN b).length ≤ 100 := by
  have hla := decN_len 2 a (by omega)
  have hlb := decN_len 2 b (by omega)
  have hda := decN_digits a
  have hdb := decN_digits b
  have hw : (decN a ++ 46 :: decN b).all Sx.wb = true := by
    rw [List.all_eq_true] at hda hdb ⊢
    intro c hc
    simp only [List.mem_append, List.mem_cons] at hc
    rcases hc with h | rfl | h
    · simp [Sx.wb, hda c h]
    · decide
    · simp [Sx.wb, hdb c h]
  have hup : Sx.upto (decN a ++ 46 :: decN b) = decN a := by
    unfold Sx.upto
    rw [List.takeWhile_append_of_pos (decN_nopoint a), List.takeWhile_cons]; simp
  have hbe : Sx.behind (decN a ++ 46 :: decN b) = decN b := by
    unfold Sx.behind
    rw [List.dropWhile_append_of_pos (decN_nopoint a), List.dropWhile_cons]; simp
  have hk : Sx.wkind (decN a ++ 46 :: decN b) = 3 := by
    have hne := decN_ne a
    have h0 : Sx.dig ((decN a ++ 46 :: decN b).headD 0) = true := by
      cases e : decN a with
      | nil => exact absurd e hne
      | cons c l => rw [e] at hda; simp at hda; simpa using hda.1
    have hnn : Sx.numeral (decN a ++ 46 :: decN b) = false := not_numeral_point _ (by simp)
    have hdc : Sx.decimal (decN a ++ 46 :: decN b) = true := by
      unfold Sx.decimal
      rw [hup, hbe, decN_numeral, hdb]
      simp [decN_ne b]
    unfold Sx.wkind
    rw [if_neg (by simp), if_neg (by simp only [h0]; decide), if_neg (by rw [hnn]; decide), if_pos hdc]
  refine ⟨?_, ?_, ?_⟩
  · rw [leafOk, hw, hk]; rfl
  · rw [leafText, if_neg (by decide)]; simp; omega
  · simp; omega
end Go.Proofs.YtmmohhaolgblkaaDoor

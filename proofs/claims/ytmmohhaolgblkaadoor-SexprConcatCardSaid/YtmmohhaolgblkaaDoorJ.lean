/- The sanity check of the statements about s-expressions answers true. -/
import Derived.Test.YtmmohhaolgblkaaDoorI
namespace Go.Proofs.YtmmohhaolgblkaaDoor
open Go.RowKit

def exA : ByteArray := ⟨#[40, 102, 32, 49, 32, 50, 46, 53, 48, 41, 32, 59, 32, 120]⟩
def exB : ByteArray := ⟨#[40, 97, 41, 41]⟩
def exItems : List It := [⟨5, ⟨#[]⟩, 3, 0⟩, ⟨1, ⟨#[102]⟩, 0, 1⟩, ⟨2, ⟨#[49]⟩, 0, 3⟩, ⟨3, ⟨#[50, 46, 53, 48]⟩, 0, 5⟩]
theorem exA_parse : parseT exA = (exItems, 0, 0) := by kernel_rfl
theorem exB_parse : parseT exB = ([], 3, 2) := by kernel_rfl

/-- the cells of an item of a slice that is owned -/
theorem ownsRow_item {w : World} {b n : Nat} {v : Value} {l : List It} (h : w.ownsRow b 31 4 v n (flat l)) {g cap : Nat} (hv : v = .slice (some ⟨g, 0, none⟩) n cap) {i : Nat} {x : It} (hx : l[i]? = some x) (j : Nat) (hj : j < 4) : w.cell? ⟨g, i * 4 + j, none⟩ = x.cells[j]? := by
  have hlen := h.1
  rw [flat_len] at hlen
  have hil : i < l.length := (List.getElem?_eq_some_iff.1 hx).1
  rw [hv] at h
  rw [h.cellAt (i * 4 + j) (by omega), flat_get l i x j hx hj]

set_option maxHeartbeats 300000 in
set_option maxRecDepth 100000 in
theorem awake_any (m : Int) (w : World) (hB : 0 < w.heap.size) (hM : w.cell? ⟨0, 0, none⟩ = some (.int .i64 m)) :
    Calls Tryd.prog 11 #[] w fun e w' => e = .returned (.bool true) ∧ Below w.heap.size w w' := by
  have hA : Calls Tryd.prog 25 #[.string ⟨#[40, 102, 32, 49, 32, 50, 46, 53, 48, 41, 32, 59, 32, 120]⟩] w fun e w' => ∃ v, e = .returned (.tuple #[v, .int .i64 0, .int .i64 0]) ∧ w'.ownsRow w.heap.size 31 4 v 4 (flat exItems) ∧ Below w.heap.size w w' := by
    have := parse_any m exA w hB hM
    rw [exA_parse] at this
    exact this
  go_enter Tryd.func11, Tryd.ntmps11
  go_wp2_with fail
  refine hA.mono ?_
  rintro e w1 ⟨v, rfl, hown, hb1⟩
  have hM1 : w1.cell? ⟨0, 0, none⟩ = some (.int .i64 m) := (hb1.cell (p := ⟨0, 0, none⟩) hB).trans hM
  have hBB : Calls Tryd.prog 25 #[.string ⟨#[40, 97, 41, 41]⟩] w1 fun e w' => ∃ v, e = .returned (.tuple #[v, .int .i64 3, .int .i64 2]) ∧ Below w1.heap.size w1 w' := by
    have := parse_any m exB w1 (Nat.lt_of_lt_of_le hB hb1.size) hM1
    rw [exB_parse] at this
    exact this.mono fun e w' ⟨v, he, _, hb⟩ => ⟨v, he, hb⟩
  obtain ⟨g, cap, hv, _⟩ := ownsRow_shape hown (by decide)
  subst hv
  have k0 := ownsRow_item hown rfl (i := 0) (x := ⟨5, ⟨#[]⟩, 3, 0⟩) rfl 2 (by omega)
  have k1 := ownsRow_item hown rfl (i := 3) (x := ⟨3, ⟨#[50, 46, 53, 48]⟩, 0, 5⟩) rfl 0 (by omega)
  have k2 := ownsRow_item hown rfl (i := 3) (x := ⟨3, ⟨#[50, 46, 53, 48]⟩, 0, 5⟩) rfl 1 (by omega)
  have k3 := ownsRow_item hown rfl (i := 3) (x := ⟨3, ⟨#[50, 46, 53, 48]⟩, 0, 5⟩) rfl 3 (by omega)
  have hg := (hown.lt g rfl).2
  simp only [It.cells, List.getElem?_cons_succ, List.getElem?_cons_zero, Nat.reduceMul, Nat.reduceAdd, Nat.zero_mul, Nat.zero_add] at k0 k1 k2 k3
  clear hown hM1 hA
  go_wp2_with fail
  refine hBB.mono ?_
  rintro e w2 ⟨v2, rfl, hb2⟩
  have c0 := (hb2.cell (p := ⟨g, 2, none⟩) hg).trans k0
  have c1 := (hb2.cell (p := ⟨g, 12, none⟩) hg).trans k1
  have c2 := (hb2.cell (p := ⟨g, 13, none⟩) hg).trans k2
  have c3 := (hb2.cell (p := ⟨g, 15, none⟩) hg).trans k3
  have hbb := Lib.hid (hb1.trans (hb2.mono hb1.size))
  clear k0 k1 k2 k3 hb1 hb2
  go_wp2
  go_ret
  exact ⟨rfl, hbb.out⟩
end Go.Proofs.YtmmohhaolgblkaaDoor

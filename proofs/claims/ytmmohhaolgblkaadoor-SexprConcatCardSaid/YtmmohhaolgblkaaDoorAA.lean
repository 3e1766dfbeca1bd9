/- 'equal' of two lists of items that are equal. -/
import Derived.Test.YtmmohhaolgblkaaDoorS
namespace Go.Proofs.YtmmohhaolgblkaaDoor
open Go.RowKit

/-- the cells of a list of items that lies at the head of a block -/
def Lies (w : World) (ao : Option Addr) (g n : Nat) (l : List It) : Prop :=
  l.length = n ∧ (n ≠ 0 → ao = some ⟨g, 0, none⟩) ∧ g < w.heap.size ∧ ∀ i x, l[i]? = some x → ∀ j, j < 4 → w.cell? ⟨g, i * 4 + j, none⟩ = x.cells[j]?
theorem lies_of {w : World} {b n : Nat} {v : Value} {l : List It} (h : w.ownsRow b 31 4 v n (flat l)) (h0 : 0 < w.heap.size) : ∃ ao g cap, v = .slice ao n cap ∧ Lies w ao g n l := by
  have hlen := h.1
  rw [flat_len] at hlen
  have h' := h
  obtain ⟨_, h1 | ⟨g, cap, cur, hv, _⟩⟩ := h'
  · obtain ⟨rfl, rfl⟩ := h1
    refine ⟨none, 0, 0, rfl, by omega, fun h => absurd rfl h, h0, fun i x hx => ?_⟩
    have : l = [] := List.length_eq_zero_iff.1 (by omega)
    rw [this] at hx; simp at hx
  · exact ⟨_, g, cap, hv, by omega, fun _ => rfl, (h.lt g (by rw [hv]; rfl)).2, fun i x hx j hj => ownsRow_item h hv hx j hj⟩
def Eqv (pos : Bool) (x y : It) : Prop := x.kind = y.kind ∧ x.text = y.text ∧ x.kids = y.kids ∧ (pos = true → x.pos = y.pos)

set_option maxHeartbeats 2000000 in
set_option maxRecDepth 100000 in
theorem equal_any (pos : Bool) (ao bo : Option Addr) (ga gb ca cb n : Nat) (A B : List It) (w : World) (hn : n ≤ 1000000000) (hA : Lies w ao ga n A) (hB : Lies w bo gb n B)
    (he : ∀ (i : Nat) (x y : It), A[i]? = some x → B[i]? = some y → Eqv pos x y) :
    Calls Tryd.prog 26 #[.slice ao n ca, .slice bo n cb, .bool pos] w fun e w' => e = .returned (.bool true) ∧ Below w.heap.size w w' := by
  obtain ⟨lA, nA, gA, cA⟩ := hA
  obtain ⟨lB, nB, gB, cB⟩ := hB
  have HNA := Lib.hid nA
  have HNB := Lib.hid nB
  have HCA := Lib.hid cA
  have HCB := Lib.hid cB
  have HE := Lib.hid he
  clear nA nB cA cB he
  go_enter Tryd.func26, Tryd.ntmps26
  go_wp2
  generalize hb : w.heap.size = b at *
  have HB := Lib.hid hb
  clear hb
  go_loopw [7] (fun i wr => ∃ k : Nat, k ≤ n ∧ i = .int .i64 k ∧ Below b w wr) (fun i _ => n - (intOf i).toNat)
  case atStart => exact ⟨0, Nat.zero_le _, rfl, Below.refl _ _⟩
  case round =>
    obtain ⟨k, hk, rfl, hbel⟩ := hrel
    have HW := Lib.hid hbel
    have hsz := hbel.size
    clear hbel
    by_cases hlt : k < n
    · obtain ⟨x, hx⟩ : ∃ x, A[k]? = some x := ⟨_, List.getElem?_eq_getElem (by omega)⟩
      obtain ⟨y, hy⟩ : ∃ y, B[k]? = some y := ⟨_, List.getElem?_eq_getElem (by omega)⟩
      have hxy := HE.out k x y hx hy
      have q := fun j hj => (HW.out.cell (p := ⟨ga, k * 4 + j, none⟩) gA).trans (HCA.out k x hx j hj)
      have r := fun j hj => (HW.out.cell (p := ⟨gb, k * 4 + j, none⟩) gB).trans (HCB.out k y hy j hj)
      have q0 := q 0 (by omega); have q1 := q 1 (by omega); have q2 := q 2 (by omega); have q3 := q 3 (by omega)
      have r0 := r 0 (by omega); have r1 := r 1 (by omega); have r2 := r 2 (by omega); have r3 := r 3 (by omega)
      clear q r hx hy
      simp only [It.cells, List.getElem?_cons_succ, List.getElem?_cons_zero, Nat.add_zero] at q0 q1 q2 q3 r0 r1 r2 r3
      have hao := HNA.out (by omega)
      have hbo := HNB.out (by omega)
      subst hao hbo
      obtain ⟨xk, xt, xn, xp⟩ := x
      obtain ⟨yk, yt, yn, yp⟩ := y
      obtain ⟨rfl, rfl, rfl, h4⟩ := hxy
      cases pos with
      | true =>
        obtain rfl := h4 rfl
        clear h4
        have hbw : b ≤ wr.heap.size := by have := HB.out; omega
        have hga : ga < wr.heap.size := by have := HB.out; omega
        have hgb : gb < wr.heap.size := by have := HB.out; omega
        have hk0 : (0 : Int) ≤ (k : Int) := by omega
        have hk1 : (k : Int) < (n : Int) := by omega
        go_wp2_with fail
        go_region
        all_goals
          go_wp2
          go_roundw
          case rel => exact ⟨k + 1, by omega, by go_num, below_drewN ((HW.out.alloc hbw _).alloc (by simp; omega) _) 1⟩
          case measure => simp [intOf]; omega
      | false =>
        clear h4
        have hbw : b ≤ wr.heap.size := by have := HB.out; omega
        have hga : ga < wr.heap.size := by have := HB.out; omega
        have hgb : gb < wr.heap.size := by have := HB.out; omega
        have hk0 : (0 : Int) ≤ (k : Int) := by omega
        have hk1 : (k : Int) < (n : Int) := by omega
        go_wp2_with fail
        go_region
        all_goals
          go_wp2
          go_roundw
          case rel => exact ⟨k + 1, by omega, by go_num, below_drewN ((HW.out.alloc hbw _).alloc (by simp; omega) _) 1⟩
          case measure => simp [intOf]; omega
    · go_wp2
      go_ret
      exact ⟨rfl, by rw [HB.out]; exact HW.out⟩
end Go.Proofs.YtmmohhaolgblkaaDoor

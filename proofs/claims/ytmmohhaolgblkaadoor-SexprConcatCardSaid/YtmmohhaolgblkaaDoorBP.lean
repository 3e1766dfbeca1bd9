/- 'append' of a list of items to a row of the call's own, under a guard or not. -/
import Derived.Test.YtmmohhaolgblkaaDoorAV
import Derived.Test.YtmmohhaolgblkaaDoorAJ
import Derived.Test.YtmmohhaolgblkaaDoorAA
import Derived.Laws.AppendOwnNone
namespace Go.Proofs.YtmmohhaolgblkaaDoor
open Go.RowKit

set_option maxRecDepth 100000 in
theorem wpList_append_items {ops : Array Oper} {rest : List Oper} {o : Oper} {act : Act} {Q : Exit → Act → World → Prop} {w : World} (hw : Region.wanted o (yielded ops act.tmps) = true) (s x : Operand)
    (ho : o.op = .call { callee := .builtin .append, args := #[s, x], argTypes := #[26, 26] })
    (base : Nat) (v : Value) (n : Nat) (xs : List Value) (hs : act.eval s = v) (hown : w.ownsRow base 31 4 v n xs)
    (ao : Option Addr) (g m c : Nat) (l : List It) (hx : act.eval x = .slice ao m c) (hc0 : ao = none → c = 0) (hL : Lies w ao g m l) (hn : n + m ≤ 1000000) (hbase : base ≤ w.heap.size)
    (h : ∀ v' w', w'.ownsRow base 31 4 v' (n + m) (xs ++ flat l) → w.grownBy w' v.ownBlock → wpList Tryd.prog ops Q rest (act.put o.dst v') w') : wpList Tryd.prog ops Q (o :: rest) act w := by
  obtain ⟨ti, hti, hz0, hz1, hz2⟩ := info_parts infoItem
  obtain ⟨hl, hA, _, hI⟩ := hL
  cases ao with
  | none =>
    have hc := hc0 rfl
    subst hc
    have hm : m = 0 := by
      rcases Nat.eq_zero_or_pos m with h | h
      · exact h
      · have := hA (by omega); cases this
    subst hm
    have hl0 : l = [] := List.length_eq_zero_iff.1 hl
    subst hl0
    refine wpList_step fun K hK => ?_
    rw [if_pos hw]
    have hrun := run_append_owned_none (P := Tryd.prog) (w := w) base 26 o.type 31 ti 4 Tryd.underlying26 hti v n xs hown
    unfold Oper.wp
    simp [execOp, ho, resolve, invoke, builtin, hs, hx, hrun, Result.andThen]
    exact hK _ _ (h v w (by simpa [flat] using hown) (World.grownBy_alloc w (.cells #[] 31) v.ownBlock |> fun _ => ⟨rfl, rfl, rfl, Nat.le_refl _, fun _ _ _ => rfl⟩))
  | some ad =>
    refine wpList_step fun K hK => ?_
    rw [if_pos hw]
    refine wp_append_own w s x 26 ho base 31 ti _ 4 40 Tryd.underlying26 hti hz0 hz1 hz2 rfl (by decide) v n xs hs hown ad m c (flat l) hx (by rw [flat_len, hl]) (fun j u hj => ?_) ?_ (by unfold maxLen; omega) (by omega) hbase (fun v' w' h2 h3 _ => hK _ _ (h v' w' h2 h3))
    · have hjl : j < (flat l).length := (List.getElem?_eq_some_iff.1 hj).1
      rw [flat_len] at hjl
      have hm : m ≠ 0 := by omega
      have hq := hA hm
      injection hq with hq
      subst hq
      have hi : j / 4 < l.length := by omega
      have hget := hI (j / 4) l[j / 4] (List.getElem?_eq_getElem hi) (j % 4) (Nat.mod_lt _ (by omega))
      have hfl := flat_get l (j / 4) l[j / 4] (j % 4) (List.getElem?_eq_getElem hi) (Nat.mod_lt _ (by omega))
      rw [show j / 4 * 4 + j % 4 = j by omega] at hget hfl
      rw [hfl] at hj
      show w.cell? ((⟨g, 0, none⟩ : Addr).add j) = some u
      rw [show (⟨g, 0, none⟩ : Addr).add j = ⟨g, j, none⟩ by simp [Addr.add]; intro h; exact h.symm]
      rw [hget]; exact hj
    · intro u hu
      simp only [flat, List.mem_flatMap] at hu
      obtain ⟨x, _, hx⟩ := hu
      simp [It.cells] at hx
      rcases hx with rfl | rfl | rfl | rfl <;> rfl
end Go.Proofs.YtmmohhaolgblkaaDoor

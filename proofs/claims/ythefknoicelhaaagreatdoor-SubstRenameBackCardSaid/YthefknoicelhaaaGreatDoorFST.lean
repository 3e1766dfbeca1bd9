/- 'Height': how deep a list is nested. -/
import Derived.Test.YthefknoicelhaaaGreatDoorFSQ
import Derived.Deep.AppendLies
namespace Go.Proofs.YthefknoicelhaaaGreatDoor.Se
open Go.RowKit

def popE (i : Nat) (op : List Nat) : List Nat := (op.reverse.dropWhile (decide <| · ≤ i)).reverse
def heightF (i : Nat) : List Nat → List Nat → Nat → Nat
  | [], _, best => best
  | e :: r, op, best => heightF (i + 1) r (popE i op ++ [e]) (max best ((popE i op).length + 1))
theorem popE_pop (i : Nat) (op : List Nat) (x : Nat) (h : x ≤ i) : popE i (op ++ [x]) = popE i op := by
  unfold popE; simp [h]
theorem popE_stop (i : Nat) (op : List Nat) (x : Nat) (h : ¬ x ≤ i) : popE i (op ++ [x]) = op ++ [x] := by
  unfold popE; simp [h]

def ints (l : List Nat) : List Value := l.map fun n : Nat => Value.int .i64 n
theorem ownsRow_init {w : World} {b g cap n : Nat} {xs : List Value} {x : Value} (h : w.ownsRow b 3 1 (.slice (some ⟨g, 0, none⟩) (n + 1) cap) (n + 1) (xs ++ [x])) : w.ownsRow b 3 1 (.slice (some ⟨g, 0, none⟩) n cap) n xs := by
  obtain ⟨hl, h0 | ⟨g', cap', cur, hvv, hg, hh, hn, hc, hsz, ht⟩⟩ := h
  · exact absurd h0.2 (by omega)
  · cases hvv
    simp only [List.length_append, List.length_singleton, Nat.mul_one] at hl
    refine ⟨by omega, .inr ⟨g, cap, cur, rfl, hg, hh, by omega, hc, hsz, ?_⟩⟩
    have h3 : List.take n cur.toList = List.take n (xs ++ [x]) := by rw [← ht, List.take_take, Nat.mul_one, Nat.min_eq_left (by omega)]
    rw [Nat.mul_one, h3, List.take_append_of_le_length (by omega), List.take_of_length_le (by omega)]

set_option maxHeartbeats 2000000 in
set_option maxRecDepth 100000 in
theorem height_any (ao : Option Addr) (g cap n : Nat) (E : List Nat) (w : World) (hn : n ≤ 1000000000) (hE : E.length = n) (hao : n ≠ 0 → ao = some ⟨g, 0, none⟩) (hg : g < w.heap.size)
    (hc : ∀ t (h : t < E.length), w.cell? ⟨g, t, none⟩ = some (.int .i64 E[t])) :
    Calls Tryz.prog 77 #[.slice ao n cap] w fun e w' => e = .returned (.int .i64 (heightF 0 E [] 0)) ∧ Below w.heap.size w w' := by
  obtain ⟨i0, hi, hz0, hz1, hz2⟩ := info_parts infoInt
  have HC := Lib.hid hc
  have HA := Lib.hid hao
  clear hc hao
  go_enter Tryz.func77, Tryz.ntmps77
  go_wp2
  generalize hB : w.heap.size = B at *
  have HBe := Lib.hid hB
  clear hB
  go_loopw [3, 4, 9] (fun bst opn idx wr => ∃ (k best : Nat) (op : List Nat), k ≤ n ∧ bst = .int .i64 best ∧ idx = .int .i64 k ∧ wr.ownsRow B 3 1 opn op.length (ints op) ∧ Below B w wr ∧ op.length ≤ k ∧ best ≤ n ∧ heightF k (E.drop k) op best = heightF 0 E [] 0)
    (fun _ _ idx _ => n - (intOf idx).toNat)
  case atStart => exact ⟨0, 0, [], Nat.zero_le _, rfl, rfl, World.ownsRow_nil _ _ _ _, Below.refl _ _, Nat.le_refl _, Nat.zero_le _, rfl⟩
  case round =>
    obtain ⟨k, best, op, hk, rfl, rfl, hown, hbel, hopk, hbest, hh⟩ := hrel
    have HO := Lib.hid hown
    have HB := Lib.hid hbel
    have HH := Lib.hid hh
    clear hown hbel hh
    by_cases hlt : k < n
    · have hkE : k < E.length := by omega
      have hce : wr.cell? ⟨g, k, none⟩ = some (.int .i64 E[k]) := (HB.out.cell (p := ⟨g, k, none⟩) hg).trans (HC.out k hkE)
      have hao := HA.out (by omega)
      subst hao
      have HH2 : Hid (heightF (k + 1) (E.drop (k + 1)) (popE k op ++ [E[k]]) (max best ((popE k op).length + 1)) = heightF 0 E [] 0) := Lib.hid (by rw [← HH.out, List.drop_eq_getElem_cons hkE]; rfl)
      generalize E[k] = y at *
      go_wp2
      go_loop [4] (fun opn => ∃ op2 : List Nat, wr.ownsRow B 3 1 opn op2.length (ints op2) ∧ popE k op2 = popE k op ∧ op2.length ≤ k) (fun v => match v with | .slice _ l _ => l | _ => 0)
      case atStart => exact ⟨op, HO.out, rfl, hopk⟩
      case round =>
        obtain ⟨op2, ho2, hp2, hl2⟩ := hrel
        have HO2 := Lib.hid ho2
        have HP2 := Lib.hid hp2
        obtain ⟨a2, c2, hsl⟩ := ownsRow_len ho2
        clear ho2 hp2
        by_cases hop : op2 = []
        · subst hop
          have hnl : (0 : Nat) = 0 := rfl
          rw [List.length_nil] at hsl
          subst hsl
          have HPE : Hid (popE k op = []) := Lib.hid (by rw [← HP2.out]; rfl)
          have HOO : Hid (wr.ownsRow B 3 1 (.slice a2 0 c2) 0 (ints [])) := Lib.hid HO2.out
          go_wp2_with (at_builtin; refine wpList_append_own _ rfl (.tmp 32) (.tmp 34) 23 rfl B 3 i0 (.int .i64 0) 1 8 Tryz.underlying23 hi hz0 hz1 hz2 rfl (by decide) _ 0 _ rfl (HOO.out.alloc _) ⟨wr.heap.size, 0, none⟩ 1 1 [.int .i64 y] rfl rfl (World.news_of_block (cs := #[.int .i64 y]) (t := 3) (fr := (0, 0)) (heap_alloc_new wr _)) (by simp [Value.oneCell']) (by unfold maxLen; omega) (by omega) (by have := HB.out.size; have := HBe.out; simp; omega) ?_)
          intro v' w2 hown' hgrow _
          have HB2 := Lib.hid (((HB.out.alloc (by have := HB.out.size; have := HBe.out; omega) _).grown hgrow (by have := HB.out.size; have := HBe.out; simp; omega) (fun q hq => (HOO.out.lt q hq).1)))
          obtain ⟨g3, c3, rfl, _⟩ := ownsRow_shape hown' (by omega)
          have HO3 := Lib.hid hown'
          clear hown' hgrow
          go_wp2
          go_roundw
          case rel => exact ⟨k + 1, max best 1, [y], by omega, by go_num, by go_num, HO3.out, HB2.out, by simp, by omega, by have := HH2.out; rw [HPE.out] at this; exact this⟩
          case measure => simp [intOf]; omega
        · obtain ⟨op3, x, hcat⟩ : ∃ op3 x, op2 = op3 ++ [x] := ⟨op2.dropLast, op2.getLast hop, (List.dropLast_concat_getLast hop).symm⟩
          subst hcat
          clear hop
          obtain ⟨g2, c2', hsl2, hg2, hc2, _⟩ := ownsRow_shape HO2.out (by simp)
          rw [List.length_append, List.length_singleton] at hc2
          have hle2 : op3.length ≤ c2' := by omega
          rw [List.length_append, List.length_singleton] at hsl2
          subst hsl2
          have hcx : wr.cell? ⟨g2, op3.length, none⟩ = some (.int .i64 x) := by
            have := HO2.out
            rw [List.length_append, List.length_singleton] at this
            rw [this.cellAt op3.length (by omega)]; simp [ints]
          by_cases hxk : x ≤ k
          · have HI2 : Hid (wr.ownsRow B 3 1 (.slice (some ⟨g2, 0, none⟩) op3.length c2') op3.length (ints op3)) := Lib.hid (by
              have := HO2.out
              rw [List.length_append, List.length_singleton] at this
              unfold ints at this; rw [List.map_append] at this
              exact ownsRow_init this)
            have HP3 : Hid (popE k op3 = popE k op) := Lib.hid (by rw [← HP2.out, popE_pop k op3 x hxk])
            clear hsl
            simp only [List.length_append, List.length_singleton] at hl2
            go_wp2
            go_round
            case rel => exact ⟨op3, HI2.out, HP3.out, by omega⟩
            case measure => simp
          · have HPE : Hid (popE k op = op3 ++ [x]) := Lib.hid (by rw [← HP2.out, popE_stop k op3 x hxk])
            clear hsl
            simp only [List.length_append, List.length_singleton] at hl2
            have HOO : Hid (wr.ownsRow B 3 1 (.slice (some ⟨g2, 0, none⟩) (op3.length + 1) c2') (op3.length + 1) (ints (op3 ++ [x]))) := Lib.hid (by have := HO2.out; rwa [List.length_append, List.length_singleton] at this)
            go_wp2_with (at_builtin; refine wpList_append_own _ rfl (.tmp 32) (.tmp 34) 23 rfl B 3 i0 (.int .i64 0) 1 8 Tryz.underlying23 hi hz0 hz1 hz2 rfl (by decide) _ (op3.length + 1) _ rfl (HOO.out.alloc _) ⟨wr.heap.size, 0, none⟩ 1 1 [.int .i64 y] rfl rfl (World.news_of_block (cs := #[.int .i64 y]) (t := 3) (fr := (0, 0)) (heap_alloc_new wr _)) (by simp [Value.oneCell']) (by unfold maxLen; omega) (by omega) (by have := HB.out.size; have := HBe.out; simp; omega) ?_)
            intro v' w2 hown' hgrow _
            have HB2 := Lib.hid (((HB.out.alloc (by have := HB.out.size; have := HBe.out; omega) _).grown hgrow (by have := HB.out.size; have := HBe.out; simp; omega) (fun q hq => (HOO.out.lt q hq).1)))
            obtain ⟨g3, c3, rfl, _⟩ := ownsRow_shape hown' (by omega)
            have HO3 := Lib.hid hown'
            clear hown' hgrow
            go_wp2
            go_roundw
            case rel => exact ⟨k + 1, max best (op3.length + 1 + 1), op3 ++ [x] ++ [y], by omega, by go_num, by go_num, by simpa [ints] using HO3.out, HB2.out, by simp; omega, by omega, by have := HH2.out; rw [HPE.out] at this; simpa using this⟩
            case measure => simp [intOf]; omega
    · have HF : Hid (heightF 0 E [] 0 = best) := Lib.hid (by rw [← HH.out, List.drop_of_length_le (by omega)]; rfl)
      go_wp2
      go_ret
      exact ⟨ret_int (by rw [HF.out]), by rw [HBe.out]; exact HB.out⟩
end Go.Proofs.YthefknoicelhaaaGreatDoor.Se
/- 'check' and 'Valid' over a list of items. -/
namespace Go.Proofs.YthefknoicelhaaaGreatDoor.Se
open Go.RowKit

theorem ownsRow_below {w w' : World} {b B : Nat} {e : TypeId} {z : Nat} {v : Value} {n : Nat} {xs : List Value} (h : w.ownsRow b e z v n xs) (hb : Below B w w') (hv : ∀ g, v.ownBlock = some g → g < B) : w'.ownsRow b e z v n xs := by
  obtain ⟨hl, h0 | ⟨g, cap, cur, hvv, hg, hh, r⟩⟩ := h
  · exact ⟨hl, .inl h0⟩
  · exact ⟨hl, .inr ⟨g, cap, cur, hvv, hg, by rw [hb.block g (hv g (by rw [hvv]; rfl))]; exact hh, r⟩⟩
end Go.Proofs.YthefknoicelhaaaGreatDoor.Se
/- tree.Children, Roots and Children over a valid list. -/
namespace Go.Proofs.YthefknoicelhaaaGreatDoor.Se
open Go.RowKit

def trailF : Nat → List Nat → Nat → Nat → List Nat
  | 0, _, _, _ => []
  | f + 1, E, i, up1 => if i < up1 then i :: trailF f E (E.getD i 0) up1 else []
/-- the indices that follow one another from i on, below 'up1' -/
def trail (E : List Nat) (i up1 : Nat) : List Nat := trailF (up1 - i) E i up1
theorem trail_stop {E : List Nat} {i up1 : Nat} (h : ¬ i < up1) : trail E i up1 = [] := by
  unfold trail; rw [show up1 - i = 0 by omega]; rfl
theorem trailF_fuel {E : List Nat} {up1 : Nat} (hE : ∀ j, j < up1 → j < E.getD j 0) : ∀ (f f' i : Nat), up1 - i ≤ f → up1 - i ≤ f' → trailF f E i up1 = trailF f' E i up1 := by
  intro f
  induction f with
  | zero => intro f' i h _; cases f' with
    | zero => rfl
    | succ f' => simp only [trailF]; rw [if_neg (by omega)]
  | succ f ih =>
    intro f' i h h'
    cases f' with
    | zero => simp only [trailF]; rw [if_neg (by omega)]
    | succ f' =>
      simp only [trailF]
      split
      · rename_i hlt
        have := hE i hlt
        rw [ih f' _ (by omega) (by omega)]
      · rfl
theorem trail_step {E : List Nat} {i up1 e : Nat} (hE : ∀ j, j < up1 → j < E.getD j 0) (h : i < up1) (he : E.getD i 0 = e) : trail E i up1 = i :: trail E e up1 := by
  unfold trail
  obtain ⟨f, hf⟩ : ∃ f, up1 - i = f + 1 := ⟨up1 - i - 1, by omega⟩
  have := hE i h
  rw [hf]
  simp only [trailF]
  rw [if_pos h, he, trailF_fuel hE f (up1 - e) e (by omega) (by omega)]
/-- a row of numbers at the head of a block -/
theorem row_at {w : World} {b : Nat} {v : Value} {E : List Nat} (h : w.ownsRow b 3 1 v E.length (ints E)) (h0 : 0 < w.heap.size) : ∃ ao g cap, v = .slice ao E.length cap ∧ (E.length ≠ 0 → ao = some ⟨g, 0, none⟩) ∧ g < w.heap.size ∧ ∀ t (h : t < E.length), w.cell? ⟨g, t, none⟩ = some (.int .i64 E[t]) := by
  have h' := h
  obtain ⟨_, h1 | ⟨g, cap, cur, hv, _⟩⟩ := h'
  · exact ⟨none, 0, 0, by rw [h1.1, h1.2], fun h => absurd h1.2 h, h0, fun t ht => by omega⟩
  · refine ⟨_, g, cap, hv, fun _ => rfl, (h.lt g (by rw [hv]; rfl)).2, fun t ht => ?_⟩
    rw [hv] at h
    rw [h.cellAt t (by omega)]; simp [ints, ht]




end Go.Proofs.YthefknoicelhaaaGreatDoor.Se

/- The choices: New and Next. -/
import Derived.Test.YtmmohhaolgblkaaDoorT
namespace Go.Proofs.YtmmohhaolgblkaaDoor
open Go.RowKit

theorem grown_refl (w : World) (r : Option Nat) : w.grownBy w r := ⟨rfl, rfl, rfl, Nat.le_refl _, fun _ _ _ => rfl⟩
theorem grown_trans {w w1 w2 : World} {r : Option Nat} (h : w.grownBy w1 r) (h2 : w1.grownBy w2 r) : w.grownBy w2 r :=
  ⟨h2.os.trans h.os, h2.tape.trans h.tape, h2.output.trans h.output, Nat.le_trans h.size h2.size, fun k hk hr => (h2.block k (Nat.lt_of_lt_of_le hk h.size) hr).trans (h.block k hk hr)⟩
theorem grown_drewN {w w1 : World} {r : Option Nat} (h : w.grownBy w1 r) (n : Nat) : w.grownBy (w1.drewN n) r :=
  let b := below_drewN (Below.refl 0 w1) n
  ⟨b.os.trans h.os, b.tape.trans h.tape, b.output.trans h.output, Nat.le_trans h.size b.size, fun k hk hr => h.block k hk hr⟩
theorem grown_setCell {w w1 : World} {r : Nat} (h : w.grownBy w1 (some r)) (j : Nat) (v : Value) : w.grownBy (w1.setCell ⟨r, j, none⟩ v) (some r) :=
  ⟨h.os, h.tape, h.output, by simpa [World.setCell] using h.size, fun k hk hr => by rw [Below.heap_setCell _ _ _ _ (by show k ≠ r; exact fun e => hr (by rw [e]))]; exact h.block k hk hr⟩
/-- what is new to both may grow as it likes -/
theorem grown_of {w w1 w2 : World} {r r2 : Option Nat} (h : w.grownBy w1 r) (h2 : w1.grownBy w2 r2) (hr : ∀ k, r2 = some k → w.heap.size ≤ k ∨ r = some k) : w.grownBy w2 r :=
  ⟨h2.os.trans h.os, h2.tape.trans h.tape, h2.output.trans h.output, Nat.le_trans h.size h2.size, fun k hk hk2 => (h2.block k (Nat.lt_of_lt_of_le hk h.size) (fun e => by rcases hr k e.symm with h | h; omega; exact hk2 h.symm)).trans (h.block k hk hk2)⟩

/-- the choices' block, and the numbers that are left to be used -/
structure Ch (C : Nat) (ao : Option Addr) (n cap : Nat) (w : World) : Prop where
  blk : ∃ i : Nat, i ≤ n ∧ w.heap[C]? = some (.cells #[.slice ao n cap, .int .i64 i] 76 (0, 0))
  few : n ≤ 400
  rd : n ≠ 0 → ∃ b off, ao = some ⟨b, off, none⟩ ∧ b < C ∧ ∀ t, t < n → ∃ x : Int, w.cell? ⟨b, off + t, none⟩ = some (.int .i64 x)
theorem Ch.lt {C : Nat} {ao : Option Addr} {n cap : Nat} {w : World} (h : Ch C ao n cap w) : C < w.heap.size := by
  obtain ⟨i, _, h⟩ := h.blk
  exact (Array.getElem?_eq_some_iff.1 h).1
theorem Ch.grown {C : Nat} {ao : Option Addr} {n cap : Nat} {w w' : World} {r : Option Nat} (h : Ch C ao n cap w) (hg : w.grownBy w' r) (hr : ∀ k, r = some k → C < k) : Ch C ao n cap w' := by
  have hlt := h.lt
  refine ⟨?_, h.few, fun hn => ?_⟩
  · obtain ⟨i, hi, hb⟩ := h.blk
    exact ⟨i, hi, (hg.block C hlt (fun e => by have := hr C e.symm; omega)).trans hb⟩
  · obtain ⟨b, off, e, hb, hx⟩ := h.rd hn
    refine ⟨b, off, e, hb, fun t ht => ?_⟩
    obtain ⟨x, hx⟩ := hx t ht
    exact ⟨x, hg.cell hx (fun e => by have := hr b e.symm; omega)⟩
theorem Ch.drewN {C : Nat} {ao : Option Addr} {n cap : Nat} {w : World} (h : Ch C ao n cap w) (k : Nat) : Ch C ao n cap (w.drewN k) := h.grown (grown_drewN (grown_refl _ none) k) (by simp)
theorem Ch.step {C : Nat} {ao : Option Addr} {n cap : Nat} {w : World} (h : Ch C ao n cap w) (i : Nat) (hi : i ≤ n) (q : Int) (hq : q = i) : Ch C ao n cap (w.setCell ⟨C, 1, none⟩ (.int .i64 q)) := by
  subst hq
  refine ⟨?_, h.few, fun hn => ?_⟩
  · obtain ⟨j, _, hb⟩ := h.blk
    refine ⟨i, hi, ?_⟩
    simp [World.setCell, Array.getElem?_modify, hb]
  · obtain ⟨b, off, e, hb, hx⟩ := h.rd hn
    refine ⟨b, off, e, hb, fun t ht => ?_⟩
    obtain ⟨x, hx⟩ := hx t ht
    refine ⟨x, ?_⟩
    rw [World.cell?_setCell_other _ _ _ _ (by simp; try omega)]; exact hx
theorem mod_q (a b : Int) (w : World) (hb : 1 ≤ b) (hb2 : b ≤ 1000000000000000000) : Calls Tryd.prog 16 #[.int .i64 a, .int .i64 b] w fun e w1 => e = .returned (.int .i64 (modF a b)) ∧ w1 = w := (mod_any a b w hb hb2).mono fun _ _ h => ⟨h.1, h.2.symm⟩

def NextPost (C : Nat) (ao : Option Addr) (n cap : Nat) (w : World) (k : Nat) (e : Ending) (w' : World) : Prop :=
  ∃ r : Nat, r < k ∧ e = .returned (.int .i64 r) ∧ Ch C ao n cap w' ∧ w.grownBy w' (some C) ∧ w'.heap.size = w.heap.size

set_option maxHeartbeats 2000000 in
set_option maxRecDepth 100000 in
theorem next_any (C : Nat) (ao : Option Addr) (n cap : Nat) (w : World) (k : Nat) (hk : 1 ≤ k) (hk2 : k ≤ 10000000) (h : Ch C ao n cap w) :
    Calls Tryd.prog 30 #[.pointer (some ⟨C, 0, none⟩), .int .i64 k] w (NextPost C ao n cap w k) := by
  obtain ⟨i, hi, hb⟩ := h.blk
  have c0 : w.cell? ⟨C, 0, none⟩ = some (.slice ao n cap) := by simp [World.cell?, hb]
  have c1 : w.cell? ⟨C, 1, none⟩ = some (.int .i64 i) := by simp [World.cell?, hb]
  have hf : w.frozen? ⟨C, 1, none⟩ = false := by simp [World.frozen?, hb]
  have HC := Lib.hid h
  have hfew := h.few
  by_cases hlt : i < n
  · obtain ⟨b, off, hao, hbC, hx⟩ := h.rd (by omega)
    obtain ⟨x, hx⟩ := hx i hlt
    subst hao
    have HX := Lib.hid hx
    clear h hb hx
    go_enter Tryd.func30, Tryd.ntmps30
    go_wp2_with fail
    go_quiet (fail)
    go_wp2_with fail
    have hS := Lib.hid ((HC.out.drewN nq).step (i + 1) hlt ((i : Int) + 1) rfl)
    have hG := Lib.hid (grown_setCell (grown_drewN (grown_refl w (some C)) nq) 1 (.int .i64 ((i : Int) + 1)))
    have hz : Hid (((w.drewN nq).setCell ⟨C, 1, none⟩ (.int .i64 ((i : Int) + 1))).heap.size = w.heap.size) := Lib.hid (by simp [World.setCell])
    have d0 : ((w.drewN nq).setCell ⟨C, 1, none⟩ (.int .i64 ((i : Int) + 1))).cell? ⟨C, 0, none⟩ = some (.slice (some ⟨b, off, none⟩) n cap) := by
      rw [World.cell?_setCell_other _ _ _ _ (by simp)]; exact c0
    have d1 : ((w.drewN nq).setCell ⟨C, 1, none⟩ (.int .i64 ((i : Int) + 1))).cell? ⟨C, 1, none⟩ = some (.int .i64 ((i : Int) + 1)) := World.cell?_setCell_same _ _ _ c1
    have d2 : ((w.drewN nq).setCell ⟨C, 1, none⟩ (.int .i64 ((i : Int) + 1))).cell? ⟨b, off + i, none⟩ = some (.int .i64 x) := by
      rw [World.cell?_setCell_other _ _ _ _ (by simp; try omega)]; exact HX.out
    clear c0 c1 hf hx HC HX
    generalize (w.drewN nq).setCell ⟨C, 1, none⟩ (.int .i64 ((i : Int) + 1)) = w2 at *
    have hwr : IntKind.i64.wrap (i : Int) = i := by rw [IntKind.wrap_i64]; omega
    have hi0 : (0 : Int) ≤ (i : Int) := by omega
    have hi1 : (i : Int) < (n : Int) := by omega
    go_quiet ((go_at_call 16; exact Calls.quiet_of_same (mod_q _ _ _ (by omega) (by omega))))
    go_wp2_with fail
    go_ret
    have hm0 : 0 ≤ modF x k := by unfold modF; exact Int.emod_nonneg _ (by omega)
    have hm1 : modF x k < k := by unfold modF; exact Int.emod_lt_of_pos _ (by omega)
    exact ⟨(modF x k).toNat, by omega, congrArg (fun z => Ending.returned (Value.int .i64 z)) (Int.toNat_of_nonneg hm0).symm, hS.out.drewN _, grown_drewN hG.out _, hz.out⟩
  · have : i = n := by omega
    subst this
    clear h hb
    go_enter Tryd.func30, Tryd.ntmps30
    go_wp2_with fail
    go_quiet (fail)
    go_wp2_with fail
    go_ret
    exact ⟨0, by omega, rfl, HC.out.drewN _, grown_drewN (grown_refl _ _) _, rfl⟩
end Go.Proofs.YtmmohhaolgblkaaDoor

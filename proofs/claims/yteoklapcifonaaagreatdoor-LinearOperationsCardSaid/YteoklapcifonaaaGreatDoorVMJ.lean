/- normalDivides: the remainder of a number by the modulus. -/
import Derived.Test.YteoklapcifonaaaGreatDoorVMC
import Derived.Test.YteoklapcifonaaaGreatDoorVLO
import Derived.Test.YteoklapcifonaaaGreatDoorVQA
import Derived.Test.YteoklapcifonaaaGreatDoorVLU
namespace Go.Proofs.YteoklapcifonaaaGreatDoor
open Go.RowKit Nmx
end Go.Proofs.YteoklapcifonaaaGreatDoor
/- The normal form of a divisibility: what it is; it is the same for constraints that differ by a positive factor. -/
namespace Go.Proofs.YteoklapcifonaaaGreatDoor
open Go.RowKit Nmx
end Go.Proofs.YteoklapcifonaaaGreatDoor
/- Boxes and plain words of normalDivides. -/
namespace Go.Proofs.YteoklapcifonaaaGreatDoor
open Go.RowKit Nmx
theorem cof_mem {K : Type} {lt : K → K → Prop} {l : List (K × Rat)} (hc : Can lt l) : ∀ i : Nat, ∀ x ∈ l.take i, ∀ y ∈ l.drop i, lt x.1 y.1 := by
 induction l with
 | nil => intro i x hx; rw [List.take_nil] at hx; exact (List.not_mem_nil hx).elim
 | cons z l ih =>
   obtain ⟨n, p⟩ := z;intro i x hx y hy;cases i with
   | zero => rw [List.take_zero] at hx; exact (List.not_mem_nil hx).elim
   | succ i =>
     rw [List.take_succ_cons] at hx;rw [List.drop_succ_cons] at hy;rcases List.mem_cons.1 hx with h | h
     · rw [h]; exact hc.2.1 y (List.mem_of_mem_drop hy)
     · exact ih hc.2.2 i x h y hy
theorem cof_take_succ {l : List (List UInt8 × Rat)} (hc : Can ltB l) {i : Nat} (h : i < l.length) (n : List UInt8) : cof (l.take (i + 1)) n = if l[i].1 = n then l[i].2 else cof (l.take i) n := by
 have hlt : ∀ x ∈ l.take i, ∀ y ∈ [l[i]], ltB x.1 y.1 := fun x hx y hy => by
  rw [List.mem_singleton.1 hy];exact cof_mem hc i x hx _ (by rw [List.drop_eq_getElem_cons h]; exact List.mem_cons_self)
 rw [List.take_succ_eq_append_getElem h, cof_append ord_ltB hlt];have e1 : cof [l[i]] n = if l[i].1 = n then l[i].2 else 0 := rfl
 rw [e1]
 by_cases hn : l[i].1 = n
 · rw [if_pos hn, if_pos hn, cof_none (l := l.take i) (fun x hx e => ord_ltB.irr n (by
     have := hlt x hx l[i] (by simp); rw [e, hn] at this; exact this))]
   exact Rat.zero_add _
 · rw [if_neg hn, if_neg hn]; exact Rat.add_zero _
end Go.Proofs.YteoklapcifonaaaGreatDoor
/- normalDivides. -/
namespace Go.Proofs.YteoklapcifonaaaGreatDoor
open Go.RowKit Nmx
end Go.Proofs.YteoklapcifonaaaGreatDoor
/- Normal at divisibilities. -/
namespace Go.Proofs.YteoklapcifonaaaGreatDoor
open Go.RowKit Nmx
end Go.Proofs.YteoklapcifonaaaGreatDoor
/- Constraints that differ by a positive factor: the walk of the statement. -/
namespace Go.Proofs.YteoklapcifonaaaGreatDoor
open Go.RowKit Nmx
theorem modS (a b : Int) (w : World) (hb : 1 ≤ b) (hb2 : b ≤ 1000000000000000000) : Calls Tryz.prog 13 #[.int .i64 a, .int .i64 b] w fun e w1 => ∃ m, 0 ≤ m ∧ m < b ∧ e = .returned (.int .i64 m) ∧ w1 = w :=
 (mod_q a b w hb hb2).mono fun _ _ h => ⟨modF a b, by unfold modF; exact Int.emod_nonneg _ (by omega), by unfold modF; exact Int.emod_lt_of_pos _ (by omega), h.1, h.2⟩
end Go.Proofs.YteoklapcifonaaaGreatDoor

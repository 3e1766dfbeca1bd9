/- Constraints are drawn. -/
import Derived.Test.YteoklapcifonaaaGreatDoorVLJ
import Derived.Test.YteoklapcifonaaaGreatDoorVLO
import Derived.Test.YteoklapcifonaaaGreatDoorVLD
namespace Go.Proofs.YteoklapcifonaaaGreatDoor
open Go.RowKit Nmx
theorem LV.length {w : World} {s s' : Int} {ao : Option Addr} {n cp : Nat} {tx : ByteArray} {d : Nat} {c : Rat} {cs : List (List UInt8 × Rat)} (h : LV w (.agg #[.int .i64 s, .slice ao n cp, .string tx]) s' d c cs) : n = cs.length ∧ tx = TX c ∧ DS d c := by
 obtain ⟨_, _, _, _, he, -, -, -, dc⟩ := h;injection he with he;injection he with he;injection he with _ he;injection he with he1 he;injection he with he2 _;injection he1 with _ e2 _;injection he2 with e4;exact ⟨e2, e4, dc⟩
theorem LV.good {w : World} {v : Value} {s : Int} {d : Nat} {c : Rat} {cs : List (List UInt8 × Rat)} (h : LV w v s d c cs) : Good d cs ∧ DS d c :=
 let ⟨_, _, _, _, _, _, _, h4, h5⟩ := h; ⟨h4, h5⟩
theorem LV.grown {w w' : World} {v : Value} {s : Int} {d : Nat} {c : Rat} {cs : List (List UInt8 × Rat)} {C : Nat} {ao : Option Addr} {n cap : Nat} (h : LV w v s d c cs) (hc : Ch C ao n cap w) (hg : w.grownBy w' (some C)) : LV w' v s d c cs := by
 obtain ⟨i, -, hC⟩ := hc.blk;obtain ⟨ao, g, off, cap, h1, h2, h3, h4, h5⟩ := h
 have same : ∀ cur fr', w.heap[g]? = some (.cells cur 79 fr') → w'.heap[g]? = w.heap[g]? := fun cur fr' h3 => hg.block g (lt_of_heap h3) fun e => by
  have e := Option.some.inj e;rw [e, hC] at h3;cases h3
 refine ⟨ao, g, off, cap, h1, ?_, ?_, h4, h5⟩
 · refine ⟨h2.le, h2.most, h2.ad, fun i hi => ?_, fun i hi => ?_⟩
   all_goals
    rcases h3 with rfl | ⟨cur, fr', h3⟩
    · exact absurd hi (by simp)
    · rw [World.cell?_of_block (w := w) (w' := w') (a := ⟨g, _, none⟩) (same _ _ h3)]
      first | exact h2.nm i hi | exact h2.nu i hi
 · exact h3.imp id fun ⟨cur, fr', h3⟩ => ⟨cur, fr', (same _ _ h3).trans h3⟩
end Go.Proofs.YteoklapcifonaaaGreatDoor
/- ValidConstraint at drawn constraints; constant. -/
namespace Go.Proofs.YteoklapcifonaaaGreatDoor
open Go.RowKit Nmx
end Go.Proofs.YteoklapcifonaaaGreatDoor
/- compares; sameConstraint; Normal at constraints without variables. -/
namespace Go.Proofs.YteoklapcifonaaaGreatDoor
open Go.RowKit Nmx
end Go.Proofs.YteoklapcifonaaaGreatDoor
/- normalComparison for every relation and sort. -/
namespace Go.Proofs.YteoklapcifonaaaGreatDoor
open Go.RowKit Nmx
end Go.Proofs.YteoklapcifonaaaGreatDoor
/- Normal at comparisons. -/
namespace Go.Proofs.YteoklapcifonaaaGreatDoor
open Go.RowKit Nmx
end Go.Proofs.YteoklapcifonaaaGreatDoor

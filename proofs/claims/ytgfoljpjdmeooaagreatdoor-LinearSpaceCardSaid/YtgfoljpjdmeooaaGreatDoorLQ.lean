/- A drawn region whose operations yield one value in every world of a class: the steps of its one walk. -/
import Derived.Deep.QuietTactic
import Derived.Lib.Hide
import Derived.Below
namespace Go.Proofs.YtgfoljpjdmeooaaGreatDoor

/-- the lexical walk, shut: 'refine' looks behind the bare one -/
structure ShutQ (P : Program) (ops : Array Oper) (C : World → Prop) (Q : Act → Prop) (l : List Oper) (a : Act) : Prop where
  go : wpQuiet P ops C Q l a
section
variable {P : Program} {ops : Array Oper} {C : World → Prop} {Q : Act → Prop} {a : Act} {o : Oper} {rest : List Oper}
theorem q_nil (h : Q a) : ShutQ P ops C Q [] a := ⟨h⟩
/-- its guard passes it over -/
theorem q_skip (hw : Region.wanted o (yielded ops a.tmps) = false) (h : ShutQ P ops C Q rest (a.put o.dst undef)) : ShutQ P ops C Q (o :: rest) a := by
  refine ⟨?_⟩
  unfold wpQuiet
  rw [if_neg (by rw [hw]; exact Bool.false_ne_true)]
  exact h.go
/-- it yields v, whatever the world of the class -/
theorem q_take {v : Value} (hw : Region.wanted o (yielded ops a.tmps) = true) (hv : ∀ w, C w → o.quietAt P a C w v) (h : ShutQ P ops C Q rest (a.put o.dst v)) : ShutQ P ops C Q (o :: rest) a := by
  refine ⟨?_⟩
  unfold wpQuiet
  rw [if_pos hw]
  exact ⟨v, hv, h.go⟩
/-- the region, at a class of one's own -/
theorem q_region {id : Nat} {Q : Exit → Act → World → Prop} {w : World} {l : List Oper} (C : World → Prop) (hm : P.follows .mixedOrders = true) (hB : Region.lexB .any l.toArray = true) (hC : C w.drew)
    (h : ShutQ P l.toArray C (fun a' => ∀ w', C w' → Q .normal a' w') l a) : (Code.region id l.toArray true).wp P Q a w :=
  wp_region_quiet (C := C) hm hB hC (by simpa using h.go)
end
end Go.Proofs.YtgfoljpjdmeooaaGreatDoor

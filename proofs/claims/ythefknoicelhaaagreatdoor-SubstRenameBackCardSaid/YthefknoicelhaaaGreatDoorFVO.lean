/- What the cards of layer term share: the post of a call that makes blocks of its own alone, the variables, the witness, facts of the program. -/
import Derived.Test.YthefknoicelhaaaGreatDoorFNV
import Derived.Test.YthefknoicelhaaaGreatDoorCards
import Derived.Test.YthefknoicelhaaaGreatDoorTie
import Derived.WalkKit
import Derived.ProofKit
import Derived.OpenShut
import Derived.Lay
import Derived.Deep.DeepHandedRow
import Derived.LaidLaws
import Derived.Lib.LaidTab
import Derived.Stop.LaidErr
import Derived.ChangeMaps5
import Derived.ChangeSlices
import Derived.Shelf.Vars
import Derived.Carry
namespace Go.Proofs.YthefknoicelhaaaGreatDoor
open Go.ChangeShapes Go.WideShapes Go.ChangeAt Go.RowKit

theorem own : ownKnob Tryz.prog.godebug = none := by kernel_rfl

/-- where a call has made blocks of its own alone, the law's post stands: what was there reads as it did -/
theorem post_fresh {H : Type} {enc : TypeId × Value → H} {P : Program} {f : Func} {s : ChangeSpec} {apart fresh handsOn again : Bool} {W W1 : World} {args : Array Value} {v : Value} {ds gs : List (DataW H)} {old pa pv : List MemPlace}
    (whole : DataW.Whole enc P f.params.toList s.vars apart W args.toList ds gs old)
    (res : ∀ (b : Nat) (sp : Nat → Bool) (hd : Bool), DataW.TrodAll enc P W1 b sp hd f.resultTypes.toList (v.resultList f.resultTypes.size) (s.fn H (ds ++ gs)).results [])
    (arg : ∀ sp : Nat → Bool, (∀ p ∈ old, sp p.block = true) → DataW.TrodAll enc P W1 0 sp true f.params.toList args.toList (s.fn H (ds ++ gs)).args pa)
    (var : ∀ sp : Nat → Bool, (∀ p ∈ old, sp p.block = true) → DataW.TrodVars enc P W1 sp s.vars (s.fn H (ds ++ gs)).vars pv)
    (split : old = pa ++ pv) (far : Below W.heap.size W W1)
    (okay : ∀ (j : Nat) (t : TypeId) (r : Value), f.resultTypes[j]? = some t → (v.resultList f.resultTypes.size)[j]? = some r → Value.okWide P W1 .any 0 t r) :
    s.post enc P f apart fresh handsOn again W args v W1 := by
  have below : ∀ p ∈ old, p.block < W.heap.size := fun p hp => whole.lt p hp
  have seen : ∀ p ∈ old, (fun b => decide (b < W.heap.size)) p.block = true := fun p hp => decide_eq_true (below p hp)
  have zero : ∀ b off, MemPlace.cell b off ∈ pa ++ pv → W1.frozen? ⟨b, off, none⟩ = false := by
    obtain ⟨_, _, _, _, _, hz, _⟩ := whole
    intro b off hp
    rw [← split] at hp
    rw [far.frozen (below _ hp)]
    exact hz b off hp
  have nodup : apart = true → (pa ++ pv).Nodup := by
    obtain ⟨_, _, _, _, _, _, hn⟩ := whole
    intro ha
    rw [← split]
    exact hn ha
  refine ⟨ds, gs, old, [], pa, pv, whole, res _ _ _, arg _ seen, var _ seen, World.keptBut_mono (fun p hp => ⟨hp, ?_⟩) (far.frame (· ∈ old)), fun _ => ⟨okay, _, _, ([] ++ pa) ++ pv, ⟨[] ++ pa, pv, trodAll_append (arg _ (fun _ _ => rfl)) (res _ _ _), var _ (fun _ _ => rfl), rfl, zero, nodup⟩, ?_⟩⟩
  · rw [split, List.mem_append] at hp
    exact Or.inr hp
  · intro p hp _
    rw [split]
    exact hp
set_option maxRecDepth 100000 in
theorem shaped_len : ∀ w : World, w.ShapedOpen Tryz.prog → ∃ m, w.cell? ⟨3, 0, none⟩ = some (.int .i64 m) := fun _ h =>
  Go.Proofs.cell_of_shapedOpen_int (zero := #[.int .i64 0]) (t := 3) h (of_decide_eq_true (by kernel_rfl)) (by kernel_rfl) rfl (by kernel_rfl) (by kernel_rfl) Tryz.underlying3
/-- what the rows list -/
def lays : List (String × DataW Unit) := [("math/bits.deBruijn32tab", Rows.laid_math_bits_deBruijn32tab), ("math/bits.deBruijn64tab", Rows.laid_math_bits_deBruijn64tab), ("internal/strconv.uint64pow10", Rows.laid_internal_strconv_uint64pow10), ("strconv.ErrRange", Rows.laid_strconv_ErrRange), ("strconv.ErrSyntax", Rows.laid_strconv_ErrSyntax)]
set_option maxRecDepth 100000 in
theorem env_of {W : World} (hsh : W.ShapedOpen Tryz.prog) (hL : laidMet Tryz.prog lays W) : Env W := by
  obtain ⟨m, hM⟩ := shaped_len W hsh
  have e : (Rows.laid_internal_strconv_uint64pow10 : DataW Unit) = Lib.tabData .u64 Lib.pow10Tab := by kernel_rfl
  have hL3 := laidMet.tail (laidMet.tail hL)
  rw [e] at hL3
  exact ⟨World.block_lt_of_cell? W _ hM, ⟨m, hM⟩, Lib.tabIs_of_head (g := 0) (t := 157) (e := 140) (n := 20) (by kernel_rfl) (by kernel_rfl) Tryz.underlying157 Tryz.underlying140 (by kernel_rfl) (by kernel_rfl) hL3⟩

theorem witness_zip {H : Type} {enc : TypeId × Value → H} {C : Checked} {os : Os} {f : FuncId} {fn : Func} {s : OpenSpec} {conds : List PathCond} {apart : Bool} {laid : List (String × DataW Unit)} (w0 : World) (args : Array Value) (hos : w0.os = os)
    (hv : (w0.forCall (fun _ _ => 0) ⟨#[], args, []⟩).Shaped C.prog)
    (hok : Input.okWideB C.prog (w0.forCall (fun _ _ => 0) ⟨#[], args, []⟩) f ⟨#[], args, []⟩ = true)
    (hrow : s.preRow enc C.prog fn conds apart laid (w0.forCall (fun _ _ => 0) ⟨#[], args, []⟩).memory args) :
    ∃ (w : World) (tape : Tape) (i : Input), w.os = os ∧ (w.forCall tape i).Shaped C.prog ∧ i.vars = [] ∧ Input.okWide C.prog (w.forCall tape i) .any w.heap.size f i ∧
      s.preRow enc C.prog fn conds apart laid (w.forCall tape i).memory i.args ∧ ({ modest := false } : Assume).holds C.prog (lone (Frame.enter C.prog f i.args .normal) [] (w.forCall tape i)) :=
  ⟨w0, fun _ _ => 0, ⟨#[], args, []⟩, hos, hv, (Input.okWide_of_okWideB (base := 0) hok).1, (Input.okWide_of_okWideB hok).2, hrow, by
    simp only [Assume.holds]
    exact ⟨by simp, by simp, fun _ => Modest.zero, by simp, by simp⟩⟩

set_option maxRecDepth 100000 in
theorem lm_laidOut : laidOutB Tryz.prog = true := by kernel_rfl
set_option maxRecDepth 100000 in
theorem lm_maps : mapsRowed Tryz.prog = true := by kernel_rfl
set_option maxRecDepth 100000 in
theorem lm_plainKeys : Tryz.prog.plainKeys = Rows.substFreshRow.plainKeys := by kernel_rfl
set_option maxRecDepth 100000 in
theorem lm_heard : Tryz.prog.stopsHeard = true := by kernel_rfl
set_option maxRecDepth 100000 in
theorem lm_mayEnter : Tryz.prog.mayEnter = true := by kernel_rfl
set_option maxRecDepth 100000 in
theorem lm_lifted : Tryz.prog.liftsFinal = Rows.substFreshRow.lifted := by kernel_rfl
set_option maxRecDepth 100000 in
theorem lm_make : Tryz.prog.make = some Rows.substFreshRow.make := by kernel_rfl

end Go.Proofs.YthefknoicelhaaaGreatDoor

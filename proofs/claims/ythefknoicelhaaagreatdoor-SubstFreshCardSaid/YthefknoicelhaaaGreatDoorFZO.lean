/-
  PROVED HERE: for every string base, every slice of strings used and every int n, SubstFresh answers true and leaves its arguments as they were: the row's statement and its tied card.
  CONDITIONS: those of the row alone (five package variables hold what the program's text lays: math/bits.deBruijn32tab, math/bits.deBruijn64tab, internal/strconv.uint64pow10, strconv.ErrRange, strconv.ErrSyntax; internal/bytealg.MaxLen holds any number).
-/
import Derived.Test.YthefknoicelhaaaGreatDoorFVO
import Derived.Test.YthefknoicelhaaaGreatDoorFZN
import Derived.Deep.Slices
import Derived.SliceStrings
namespace Go.Proofs.YthefknoicelhaaaGreatDoor.Se
open Go.ChangeShapes Go.WideShapes Go.ChangeAt Go.RowKit Go.ChangeMaps

theorem cells_strR : Tryz.prog.cellsOf 9 = 1 := by kernel_rfl
theorem bytes_str : Tryz.prog.bytesOf 9 = 16 := by kernel_rfl
/-- a slice of strings that came in; the form's own reach: it takes at most 2^47 - 4096 bytes -/
theorem arg_strA {H : Type} {enc : TypeId × Value → H} {W : World} {a0 : Option Addr} {len cap : Nat} {d : DataW H} {ps : List MemPlace} (h : DataW.Trod enc Tryz.prog W 0 (fun _ => true) true 22 (.slice a0 len cap) d ps) (hw : ∀ x ∈ d.weights Tryz.prog 22, x ≤ reachBytes) :
    ∃ ss : List ByteArray, ss.length = len ∧ StrA W a0 cap ss ∧ (a0 = none → cap = 0) ∧ (1 + len) * 16 ≤ 140737488355328 := by
  obtain ⟨fuel, hf⟩ := h
  rcases open_strings Tryz.underlying22 Tryz.underlying9 cells_strR hf with ⟨hcs, _⟩ | ⟨a, len', cap', zs, hcs, _, hl, hm, hz, hx, hcell, _⟩
  · simp [Value.cells] at hcs
    obtain ⟨rfl, rfl, rfl⟩ := hcs
    exact ⟨[], rfl, ⟨Nat.le_refl _, fun h => absurd h (by omega)⟩, fun _ => rfl, by decide⟩
  · simp [Value.cells] at hcs
    obtain ⟨rfl, rfl, rfl⟩ := hcs
    simp only [if_true] at hz
    have hll : (zs.take len).length = len := by rw [List.length_take]; omega
    refine ⟨zs.take len, hll, ⟨by omega, fun h0 => ?_⟩, (fun e => by cases e), ?_⟩
    · obtain ⟨b, off, spot⟩ := a
      have hspot : spot = none := by simpa [Addr.add] using World.cell?_spot (hcell 0 (by omega))
      subst hspot
      refine ⟨b, off, rfl, World.block_lt_of_cell? _ _ (by have := hcell 0 (by omega); rwa [add_plain] at this), fun i s hs => ?_⟩
      have hi : i < len := by
        have := (List.getElem?_eq_some_iff.1 hs).1
        rwa [hll] at this
      have hc := hcell i (by omega)
      rw [add_plain] at hc
      rw [hc]
      rw [List.getElem?_take, if_pos hi] at hs
      rw [List.getD_eq_getElem?_getD, hs]
      rfl
    · injection hx with hd _
      subst hd
      have h0 := hw ((strs (H := H) (zs.take len)).length * 16 + (strs (H := H) (zs.drop len)).length * 16) (by
        simp only [DataW.weights, Tryz.underlying22, bytes_str]
        exact List.mem_cons.2 (.inl (by omega)))
      unfold strs at h0
      rw [List.length_map, List.length_map, ← Nat.add_mul, ← List.length_append, List.take_append_drop, hz] at h0
      unfold reachBytes at h0
      omega

namespace Frs
set_option maxRecDepth 100000 in
theorem contract (H : Type) (enc : TypeId × Value → H) (W : World) (base : Nat) (args : Array Value) (ds gs : List (DataW H)) (before : List MemPlace)
    (hval : ∀ (j : Nat) t v, Tryz.f5.params[j]? = some t → args[j]? = some v → Value.okWide Tryz.prog W .any base t v)
    (hW : DataW.Whole enc Tryz.prog Tryz.f5.params.toList Rows.substFreshSpec.vars false W args.toList ds gs before)
    (hR : (DataW.weightsEach Tryz.prog (Tryz.f5.params.toList ++ (OpenSpec.ofChange Rows.substFreshSpec).bare.plain.varTypes Tryz.prog) (ds ++ gs)).all (· ≤ reachBytes) = true) (hL : laidMet Tryz.prog lays W) (hsh : W.ShapedOpen Tryz.prog) :
    Calls Tryz.prog 5 args W fun e W' => ∃ v, e = .returned v ∧ Rows.substFreshSpec.post enc Tryz.prog Tryz.f5 false true false false W args v W' := by
  have hW' := hW
  obtain ⟨p, q, hA0, hV, rfl, hfz, hnd⟩ := hW
  have hA : DataW.TrodAll enc Tryz.prog W 0 (fun _ => true) true Tryz.f5.params.toList args.toList ds p := hA0
  rw [Tryz.params5] at hA hval hR
  obtain ⟨v0, vs0, d0, ds0, p0, q0, hargs, rfl, rfl, h0, r0⟩ := trodAll_cons hA
  obtain ⟨v1, vs1, d1, ds1, p1, q1, rfl, rfl, rfl, h1, r1⟩ := trodAll_cons r0
  obtain ⟨v2, vs2, d2, ds2, p2, q2, rfl, rfl, rfl, h2, r2⟩ := trodAll_cons r1
  obtain ⟨rfl, rfl, rfl⟩ := trodAll_nil r2
  obtain rfl : args = #[v0, v1, v2] := by cases args; simp_all
  obtain ⟨rfl, rfl⟩ := trodVars_none hV
  have hw1 : ∀ x ∈ d1.weights Tryz.prog 22, x ≤ reachBytes := by
    intro x hx
    have := List.all_eq_true.1 hR x (by
      simp only [List.cons_append, List.nil_append, DataW.weightsEach, List.mem_append]
      exact .inr (.inl hx))
    simpa using this
  obtain ⟨s0, rfl, rfl, rfl, hs0⟩ := open_string Tryz.underlying9 (hval 0 9 v0 rfl rfl) h0
  obtain ⟨a1, len1, cap1, rfl⟩ := okWide_slice Tryz.underlying22 (hval 1 22 v1 rfl rfl)
  have h1k := h1
  obtain ⟨ss1, hl1, hA1, hz1, hr1⟩ := arg_strA h1k hw1
  obtain ⟨n2, rfl, rfl, rfl, hwf2⟩ := open_int Tryz.underlying3 (hval 2 3 v2 rfl rfl) h2
  clear hA0
  simp only [List.append_nil, List.nil_append] at hW'
  have hlt : ∀ x ∈ p1, x.block < W.heap.size := fun x hx => by simpa using hW'.lt x hx
  have harg1 : ∀ (W' : World) (sp : Nat → Bool), Below W.heap.size W W' → (∀ p ∈ p1, sp p.block = true) → DataW.Trod enc Tryz.prog W' 0 sp true 22 (.slice a1 len1 cap1) d1 p1 :=
    fun W' sp hn hsp => WideElems.Trod_stays (P := Tryz.prog) lm_laidOut (by kernel_rfl) (of_decide_eq_true (by kernel_rfl)) h1k (fun x hx => hn.same (hlt x hx)) hsp
  refine (fresh_law s0 a1 len1 cap1 ss1 n2 W (env_of hsh hL) hA1 hl1 hz1 hr1).mono fun e W' ⟨he, hg⟩ => ?_
  subst he
  exact ⟨_, rfl, post_fresh (pa := p1) (pv := []) hW' (fun _ _ _ => trodAll_cons_mk (shut_bool Tryz.underlying4 _) trodAll_mk0) (fun sp hsp => by
      have t := trodAll_cons_mk (shut_string Tryz.underlying9 hs0) (trodAll_cons_mk (harg1 W' sp hg (fun p hp => hsp p hp)) (trodAll_cons_mk (shut_int Tryz.underlying3 hwf2) trodAll_mk0))
      rw [show [] ++ (p1 ++ ([] ++ [])) = p1 by simp] at t
      exact t) (fun _ _ => rfl) (by simp)
    hg (ok_one (by kernel_rfl) rfl (okWide_bool_mk Tryz.underlying4 _))⟩

set_option maxRecDepth 100000 in
theorem laid_met (os : Os) : laidMet Tryz.prog Rows.substFreshRow.laid ((World.laidAll Tryz.prog os lays).forCall (fun _ _ => 0) ⟨#[], #[.string ⟨#[]⟩, .slice none 0 0, .int .i64 0], []⟩).memory :=
  laidMet_laidAll (laid := lays) _ (by kernel_rfl) (by kernel_rfl)
set_option maxRecDepth 100000 in
theorem reads (os : Os) {H : Type} (enc : TypeId × Value → H) : ∃ places, DataW.whole enc Tryz.prog ((World.laidAll Tryz.prog os lays).forCall (fun _ _ => 0) ⟨#[], #[.string ⟨#[]⟩, .slice none 0 0, .int .i64 0], []⟩).memory Tryz.f5.params.toList Rows.substFreshSpec.vars false #[Value.string ⟨#[]⟩, .slice none 0 0, .int .i64 0].toList 8 = some ([.lit (.string []), .nil, .lit (.int .i64 0)], [], places) :=
  ⟨[], by kernel_rfl⟩
set_option maxRecDepth 100000 in
theorem shaped0 (os : Os) : ((World.laidAll Tryz.prog os lays).forCall (fun _ _ => 0) ⟨#[], #[.string ⟨#[]⟩, .slice none 0 0, .int .i64 0], []⟩).Shaped Tryz.prog := World.shaped_of_ZipB (by kernel_rfl) (by kernel_rfl)
set_option maxRecDepth 100000 in
theorem okay0 (os : Os) : Input.okWideB Tryz.prog ((World.laidAll Tryz.prog os lays).forCall (fun _ _ => 0) ⟨#[], #[.string ⟨#[]⟩, .slice none 0 0, .int .i64 0], []⟩) 5 ⟨#[], #[.string ⟨#[]⟩, .slice none 0 0, .int .i64 0], []⟩ = true := by kernel_rfl
set_option maxRecDepth 100000 in
theorem lifted (os : Os) (started : os.Started) (H : Type) (enc : TypeId × Value → H) (F : Stop.Interp) :
    ReturnsInHanded {} Tryz.checked os 5 .any ((OpenSpec.ofChange Rows.substFreshSpec).preRow enc Tryz.prog Tryz.f5 Rows.substFreshRow.domain false Rows.substFreshRow.laid) (((OpenSpec.ofChange Rows.substFreshSpec).at F).post enc Tryz.prog Tryz.f5 false true false false) := by
  obtain ⟨places, hx⟩ := reads os enc
  refine returnsInHanded_of_row (C := Tryz.checked) (s := OpenSpec.ofChange Rows.substFreshSpec) own started (by kernel_rfl) Tryz.func5
    (witness_zip (enc := enc) (C := Tryz.checked) (World.laidAll Tryz.prog os lays) #[.string ⟨#[]⟩, .slice none 0 0, .int .i64 0] (World.laidAll_os _ _ _) (shaped0 os) (okay0 os)
      (OpenSpec.preRow_of_cond 8 hx (by kernel_rfl) (fun k hk => by cases hk) (by kernel_rfl) (laid_met os))) ?_
  intro W base args ds gs before hval hW _ _ hR hL hsh _
  exact contract H enc W base args ds gs before hval hW hR hL hsh

set_option maxRecDepth 100000 in
theorem lm_plainKeys : Tryz.prog.plainKeys = Rows.substFreshRow.plainKeys := by kernel_rfl
set_option maxRecDepth 100000 in
theorem lm_lifted : Tryz.prog.liftsFinal = Rows.substFreshRow.lifted := by kernel_rfl
set_option maxRecDepth 100000 in
theorem lm_make : Tryz.prog.make = some Rows.substFreshRow.make := by kernel_rfl
set_option maxRecDepth 100000 in
theorem lm_inPlace : (Rows.substFreshRow.inPlace == Tryz.prog.inPlace 5) = true := by kernel_rfl
set_option maxRecDepth 100000 in
theorem lm_unfollowed : (Rows.substFreshRow.unfollowed == Tryz.prog.unfollowed 5) = true := by kernel_rfl
set_option maxRecDepth 100000 in
theorem lm_recurses : (Rows.substFreshRow.recurses == Tryz.prog.recurses 5) = true := by kernel_rfl
set_option maxRecDepth 100000 in
theorem lm_named : (Rows.substFreshRow.named == Tryz.prog.varsNamed 5) = true := by kernel_rfl
set_option maxRecDepth 100000 in
theorem facts : joinedFacts Tryz.prog 5 Tryz.f5 Rows.substFreshSpec Rows.substFreshRow = true := by
  unfold joinedFacts
  rw [lm_laidOut, lm_maps, lm_plainKeys, lm_heard, lm_mayEnter, lm_lifted, lm_make, lm_inPlace, lm_unfollowed, lm_recurses, lm_named]
  kernel_rfl
set_option maxRecDepth 100000 in
theorem said : Rows.SubstFreshSaid :=
  OpenClaim.holds_of_cond 5 Tryz.f5 rfl rfl rfl rfl rfl rfl rfl ⟨rfl, rfl, rfl, rfl, rfl⟩ rfl rfl rfl rfl rfl (by kernel_rfl) Tryz.func5 facts
    (of_decide_eq_true (by kernel_rfl)) (by unfold Func.isWrapper; first | (rw [if_pos (by decide +kernel)]; kernel_rfl) | (rw [if_neg (by decide +kernel)]; exact ⟨rfl, rfl⟩))
    (fun os started H enc _ F => by rw [OpenClaim.pre_eq_preRow]; exact lifted os started H enc F)

theorem plain (f : FuncId) (fn : Func) (hf : Tryz.pinned.checked.prog.funcNamed Rows.substFreshRow.func = some f) (hfn : Tryz.pinned.checked.prog.funcs[f]? = some fn) :
    true = Tryz.pinned.checked.prog.looks [] ∧ ∀ (j : Nat) t, fn.params[j]? = some t → Tryz.pinned.checked.prog.wantsStandIn t = false := by
  obtain rfl : f = 5 := Option.some.inj ((show Tryz.prog.funcNamed Rows.substFreshRow.func = some 5 by kernel_rfl).symm.trans hf) |>.symm
  obtain rfl : fn = Tryz.f5 := (Option.some.inj (Tryz.func5.symm.trans hfn)).symm
  refine ⟨by kernel_rfl, fun j t ht => ?_⟩
  rw [Tryz.params5] at ht
  have hm := Array.mem_of_getElem? ht
  simp only [List.mem_toArray, List.mem_cons, List.not_mem_nil, or_false] at hm
  rcases hm with rfl | rfl | rfl
  · exact (show Tryz.prog.wantsStandIn 9 = false by kernel_rfl)
  · exact (show Tryz.prog.wantsStandIn 22 = false by kernel_rfl)
  · exact (show Tryz.prog.wantsStandIn 3 = false by kernel_rfl)

/-- the card -/
theorem card : Rows.SubstFreshCardSaid :=
  Claim7.holds_tied_plain_at .later [] _ _ _ _ said (fun _ h => by cases h) (by kernel_rfl) (fun _ h => by cases h) substFresh_row_tie rfl ⟨rfl, rfl⟩ (by kernel_rfl) rfl plain (by kernel_rfl)
end Frs
end Go.Proofs.YthefknoicelhaaaGreatDoor.Se

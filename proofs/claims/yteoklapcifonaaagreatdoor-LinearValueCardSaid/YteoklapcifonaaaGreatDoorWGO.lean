/-
  PROVED HERE: for all slices of ints l, m and n and all ints s, LinearValue answers true and leaves its arguments as they were: the row's statement and its tied card.
  CONDITIONS: those of the row alone (five package variables hold what the program's text lays: math/bits.deBruijn32tab, math/bits.deBruijn64tab, internal/strconv.uint64pow10, strconv.ErrRange, strconv.ErrSyntax; internal/bytealg.MaxLen holds any number).
-/
import Derived.Test.YteoklapcifonaaaGreatDoorWLV
import Derived.Test.YteoklapcifonaaaGreatDoorWGN
namespace Go.Proofs.YteoklapcifonaaaGreatDoor
open Go.ChangeShapes Go.WideShapes Go.ChangeAt Go.RowKit Go.ChangeMaps

namespace Values
set_option maxRecDepth 100000 in
theorem contract (H : Type) (enc : TypeId × Value → H) (W : World) (base : Nat) (args : Array Value) (ds gs : List (DataW H)) (before : List MemPlace)
    (hval : ∀ (j : Nat) t v, Tryz.f9.params[j]? = some t → args[j]? = some v → Value.okWide Tryz.prog W .any base t v)
    (hW : DataW.Whole enc Tryz.prog Tryz.f9.params.toList Rows.linearValueSpec.vars false W args.toList ds gs before)
    (hL : laidMet Tryz.prog lays W) (hsh : W.ShapedOpen Tryz.prog) :
    Calls Tryz.prog 9 args W fun e W' => ∃ v, e = .returned v ∧ Rows.linearValueSpec.post enc Tryz.prog Tryz.f9 false true false false W args v W' := by
  have hW' := hW;obtain ⟨p, q, hA0, hV, rfl, hfz, hnd⟩ := hW;have hA : DataW.TrodAll enc Tryz.prog W 0 (fun _ => true) true Tryz.f9.params.toList args.toList ds p := hA0;rw [Tryz.params9] at hA hval;obtain ⟨v0, vs0, d0, ds0, p0, q0, hargs, rfl, rfl, h0, r0⟩ := trodAll_cons hA;obtain ⟨v1, vs1, d1, ds1, p1, q1, rfl, rfl, rfl, h1, r1⟩ := trodAll_cons r0;obtain ⟨v2, vs2, d2, ds2, p2, q2, rfl, rfl, rfl, h2, r2⟩ := trodAll_cons r1;obtain ⟨v3, vs3, d3, ds3, p3, q3, rfl, rfl, rfl, h3, r3⟩ := trodAll_cons r2;obtain ⟨rfl, rfl, rfl⟩ := trodAll_nil r3;obtain rfl : args = #[v0, v1, v2, v3] := by cases args; simp_all
  obtain ⟨rfl, rfl⟩ := trodVars_none hV;obtain ⟨a0, len0, cap0, rfl⟩ := okWide_slice Tryz.underlying22 (hval 0 22 v0 rfl rfl);have h0k := h0;obtain ⟨a1, len1, cap1, rfl⟩ := okWide_slice Tryz.underlying22 (hval 1 22 v1 rfl rfl);have h1k := h1;obtain ⟨a2, len2, cap2, rfl⟩ := okWide_slice Tryz.underlying22 (hval 2 22 v2 rfl rfl);have h2k := h2;obtain ⟨n0, rfl, rfl, rfl, hwf0⟩ := open_int Tryz.underlying3 (hval 3 3 v3 rfl rfl) h3;clear hA0;simp only [List.append_nil] at hW';have hlt : ∀ x ∈ p0 ++ (p1 ++ p2), x.block < W.heap.size := fun x hx => by simpa using hW'.lt x hx
  have harg0 : ∀ (W' : World) (sp : Nat → Bool), Below W.heap.size W W' → (∀ p ∈ p0, sp p.block = true) → DataW.Trod enc Tryz.prog W' 0 sp true 22 (.slice a0 len0 cap0) d0 p0 :=
    fun W' sp hn hsp => WideElems.Trod_stays (P := Tryz.prog) lm_laidOut (by kernel_rfl) (of_decide_eq_true (by kernel_rfl)) h0k (fun x hx => hn.same (hlt x (List.mem_append.2 (.inl hx)))) hsp
  have harg1 : ∀ (W' : World) (sp : Nat → Bool), Below W.heap.size W W' → (∀ p ∈ p1, sp p.block = true) → DataW.Trod enc Tryz.prog W' 0 sp true 22 (.slice a1 len1 cap1) d1 p1 :=
    fun W' sp hn hsp => WideElems.Trod_stays (P := Tryz.prog) lm_laidOut (by kernel_rfl) (of_decide_eq_true (by kernel_rfl)) h1k (fun x hx => hn.same (hlt x (List.mem_append.2 (.inr (List.mem_append.2 (.inl hx)))))) hsp
  have harg2 : ∀ (W' : World) (sp : Nat → Bool), Below W.heap.size W W' → (∀ p ∈ p2, sp p.block = true) → DataW.Trod enc Tryz.prog W' 0 sp true 22 (.slice a2 len2 cap2) d2 p2 :=
    fun W' sp hn hsp => WideElems.Trod_stays (P := Tryz.prog) lm_laidOut (by kernel_rfl) (of_decide_eq_true (by kernel_rfl)) h2k (fun x hx => hn.same (hlt x (List.mem_append.2 (.inr (List.mem_append.2 (.inr hx)))))) hsp
  refine (value_any a0 len0 cap0 a1 len1 cap1 a2 len2 cap2 n0 W (env_of hsh hL) (arg_ints h0k) (arg_ints h1k) (arg_ints h2k)).mono fun e W' ⟨he, hg⟩ => ?_
  subst he
  exact ⟨_, rfl, post_fresh (pa := p0 ++ (p1 ++ p2)) (pv := []) hW' (fun _ _ _ => trodAll_cons_mk (shut_bool Tryz.underlying4 _) trodAll_mk0) (fun sp hsp => by
      have t := trodAll_cons_mk (harg0 W' sp hg (fun p hp => hsp p (List.mem_append.2 (.inl hp)))) (trodAll_cons_mk (harg1 W' sp hg (fun p hp => hsp p (List.mem_append.2 (.inr (List.mem_append.2 (.inl hp)))))) (trodAll_cons_mk (harg2 W' sp hg (fun p hp => hsp p (List.mem_append.2 (.inr (List.mem_append.2 (.inr hp)))))) (trodAll_cons_mk (shut_int Tryz.underlying3 hwf0) trodAll_mk0)));rw [show p0 ++ (p1 ++ (p2 ++ ([] ++ []))) = p0 ++ (p1 ++ p2) by simp] at t
      exact t) (fun _ _ => rfl) (by simp)
    hg (ok_one (by kernel_rfl) rfl (okWide_bool_mk Tryz.underlying4 _))⟩

set_option maxRecDepth 100000 in
theorem laid_met (os : Os) : laidMet Tryz.prog Rows.linearValueRow.laid ((World.laidAll Tryz.prog os lays).forCall (fun _ _ => 0) ⟨#[], #[.slice none 0 0, .slice none 0 0, .slice none 0 0, .int .i64 0], []⟩).memory :=
  laidMet_laidAll (laid := lays) _ (by kernel_rfl) (by kernel_rfl)
set_option maxRecDepth 100000 in
theorem reads (os : Os) {H : Type} (enc : TypeId × Value → H) : ∃ places, DataW.whole enc Tryz.prog ((World.laidAll Tryz.prog os lays).forCall (fun _ _ => 0) ⟨#[], #[.slice none 0 0, .slice none 0 0, .slice none 0 0, .int .i64 0], []⟩).memory Tryz.f9.params.toList Rows.linearValueSpec.vars false #[Value.slice none 0 0, .slice none 0 0, .slice none 0 0, .int .i64 0].toList 8 = some ([.nil, .nil, .nil, .lit (.int .i64 0)], [], places) :=
  ⟨[], by kernel_rfl⟩
set_option maxRecDepth 100000 in
theorem shaped0 (os : Os) : ((World.laidAll Tryz.prog os lays).forCall (fun _ _ => 0) ⟨#[], #[.slice none 0 0, .slice none 0 0, .slice none 0 0, .int .i64 0], []⟩).Shaped Tryz.prog := World.shaped_of_ZipB (by kernel_rfl) (by kernel_rfl)
set_option maxRecDepth 100000 in
theorem okay0 (os : Os) : Input.okWideB Tryz.prog ((World.laidAll Tryz.prog os lays).forCall (fun _ _ => 0) ⟨#[], #[.slice none 0 0, .slice none 0 0, .slice none 0 0, .int .i64 0], []⟩) 9 ⟨#[], #[.slice none 0 0, .slice none 0 0, .slice none 0 0, .int .i64 0], []⟩ = true := by kernel_rfl
set_option maxRecDepth 100000 in
theorem lifted (os : Os) (started : os.Started) (H : Type) (enc : TypeId × Value → H) (F : Stop.Interp) :
    ReturnsInHanded {} Tryz.checked os 9 .any ((OpenSpec.ofChange Rows.linearValueSpec).preRow enc Tryz.prog Tryz.f9 Rows.linearValueRow.domain false Rows.linearValueRow.laid) (((OpenSpec.ofChange Rows.linearValueSpec).at F).post enc Tryz.prog Tryz.f9 false true false false) := by
  obtain ⟨places, hx⟩ := reads os enc
  refine returnsInHanded_of_row (C := Tryz.checked) (s := OpenSpec.ofChange Rows.linearValueSpec) own started (by kernel_rfl) Tryz.func9
    (witness_zip (enc := enc) (C := Tryz.checked) (World.laidAll Tryz.prog os lays) #[.slice none 0 0, .slice none 0 0, .slice none 0 0, .int .i64 0] (World.laidAll_os _ _ _) (shaped0 os) (okay0 os)
      (OpenSpec.preRow_of_cond 8 hx (by kernel_rfl) (fun k hk => by cases hk) (by kernel_rfl) (laid_met os))) ?_
  intro W base args ds gs before hval hW _ _ _ hL hsh _;exact contract H enc W base args ds gs before hval hW hL hsh

set_option maxRecDepth 100000 in
theorem lm_plainKeys : Tryz.prog.plainKeys = Rows.linearValueRow.plainKeys := by kernel_rfl
set_option maxRecDepth 100000 in
theorem lm_lifted : Tryz.prog.liftsFinal = Rows.linearValueRow.lifted := by kernel_rfl
set_option maxRecDepth 100000 in
theorem lm_make : Tryz.prog.make = some Rows.linearValueRow.make := by kernel_rfl
set_option maxRecDepth 100000 in
theorem lm_inPlace : (Rows.linearValueRow.inPlace == Tryz.prog.inPlace 9) = true := by kernel_rfl
set_option maxRecDepth 100000 in
theorem lm_unfollowed : (Rows.linearValueRow.unfollowed == Tryz.prog.unfollowed 9) = true := by kernel_rfl
set_option maxRecDepth 100000 in
theorem lm_recurses : (Rows.linearValueRow.recurses == Tryz.prog.recurses 9) = true := by kernel_rfl
set_option maxRecDepth 100000 in
theorem lm_named : (Rows.linearValueRow.named == Tryz.prog.varsNamed 9) = true := by kernel_rfl
set_option maxRecDepth 100000 in
theorem facts : joinedFacts Tryz.prog 9 Tryz.f9 Rows.linearValueSpec Rows.linearValueRow = true := by
  unfold joinedFacts;rw [lm_laidOut, lm_maps, lm_plainKeys, lm_heard, lm_mayEnter, lm_lifted, lm_make, lm_inPlace, lm_unfollowed, lm_recurses, lm_named]
  kernel_rfl
set_option maxRecDepth 100000 in
theorem said : Rows.LinearValueSaid :=
  OpenClaim.holds_of_cond 9 Tryz.f9 rfl rfl rfl rfl rfl rfl rfl ⟨rfl, rfl, rfl, rfl, rfl⟩ rfl rfl rfl rfl rfl (by kernel_rfl) Tryz.func9 facts
    (of_decide_eq_true (by kernel_rfl)) (by unfold Func.isWrapper; first | (rw [if_pos (by decide +kernel)]; kernel_rfl) | (rw [if_neg (by decide +kernel)]; exact ⟨rfl, rfl⟩))
    (fun os started H enc _ F => by rw [OpenClaim.pre_eq_preRow]; exact lifted os started H enc F)

theorem plain (f : FuncId) (fn : Func) (hf : Tryz.pinned.checked.prog.funcNamed Rows.linearValueRow.func = some f) (hfn : Tryz.pinned.checked.prog.funcs[f]? = some fn) :
    true = Tryz.pinned.checked.prog.looks [] ∧ ∀ (j : Nat) t, fn.params[j]? = some t → Tryz.pinned.checked.prog.wantsStandIn t = false := by
  obtain rfl : f = 9 := Option.some.inj ((show Tryz.prog.funcNamed Rows.linearValueRow.func = some 9 by kernel_rfl).symm.trans hf) |>.symm;obtain rfl : fn = Tryz.f9 := (Option.some.inj (Tryz.func9.symm.trans hfn)).symm;refine ⟨by kernel_rfl, fun j t ht => ?_⟩;rw [Tryz.params9] at ht;have hm := Array.mem_of_getElem? ht;simp only [List.mem_toArray, List.mem_cons, List.not_mem_nil, or_false] at hm;rcases hm with rfl | rfl | rfl | rfl
  · exact (show Tryz.prog.wantsStandIn 22 = false by kernel_rfl)
  · exact (show Tryz.prog.wantsStandIn 22 = false by kernel_rfl)
  · exact (show Tryz.prog.wantsStandIn 22 = false by kernel_rfl)
  · exact (show Tryz.prog.wantsStandIn 3 = false by kernel_rfl)

/-- the card -/
theorem card : Rows.LinearValueCardSaid :=
  Claim7.holds_tied_plain_at .later [] _ _ _ _ said (fun _ h => by cases h) (by kernel_rfl) (fun _ h => by cases h) linearValue_row_tie rfl ⟨rfl, rfl⟩ (by kernel_rfl) rfl plain (by kernel_rfl)
end Values
end Go.Proofs.YteoklapcifonaaaGreatDoor

/-
  PROVED HERE: for all strings a, b, c and all slices of ints k, l, m, NumberDivisors answers true and leaves its arguments as they were: the row's statement and its tied card.
  CONDITIONS: those of the row alone (five package variables hold what the program's text lays: math/bits.deBruijn32tab, math/bits.deBruijn64tab, internal/strconv.uint64pow10, strconv.ErrRange, strconv.ErrSyntax; internal/bytealg.MaxLen holds any number).
-/
import Derived.Test.YtgehimcngljmnaaGreatDoorNU
import Derived.Test.YtgehimcngljmnaaGreatDoorDD
namespace Go.Proofs.YtgehimcngljmnaaGreatDoor
open Go.ChangeShapes Go.WideShapes Go.ChangeAt Go.RowKit Go.ChangeMaps

namespace Divisors
set_option maxRecDepth 100000 in
theorem contract (H : Type) (enc : TypeId × Value → H) (W : World) (base : Nat) (args : Array Value) (ds gs : List (DataW H)) (before : List MemPlace)
    (hval : ∀ (j : Nat) t v, Tryz.f10.params[j]? = some t → args[j]? = some v → Value.okWide Tryz.prog W .any base t v)
    (hW : DataW.Whole enc Tryz.prog Tryz.f10.params.toList Rows.numberDivisorsSpec.vars false W args.toList ds gs before) (hL : laidMet Tryz.prog lays W) (hsh : W.ShapedOpen Tryz.prog) :
    Calls Tryz.prog 10 args W fun e W' => ∃ v, e = .returned v ∧ Rows.numberDivisorsSpec.post enc Tryz.prog Tryz.f10 false true false false W args v W' := by
  have hW' := hW
  obtain ⟨p, q, hA0, hV, rfl, hfz, hnd⟩ := hW
  have hA : DataW.TrodAll enc Tryz.prog W 0 (fun _ => true) true Tryz.f10.params.toList args.toList ds p := hA0
  rw [Tryz.params10] at hA hval
  obtain ⟨v0, vs0, d0, ds0, p0, q0, hargs, rfl, rfl, h0, r0⟩ := trodAll_cons hA
  obtain ⟨v1, vs1, d1, ds1, p1, q1, rfl, rfl, rfl, h1, r1⟩ := trodAll_cons r0
  obtain ⟨v2, vs2, d2, ds2, p2, q2, rfl, rfl, rfl, h2, r2⟩ := trodAll_cons r1
  obtain ⟨v3, vs3, d3, ds3, p3, q3, rfl, rfl, rfl, h3, r3⟩ := trodAll_cons r2
  obtain ⟨v4, vs4, d4, ds4, p4, q4, rfl, rfl, rfl, h4, r4⟩ := trodAll_cons r3
  obtain ⟨v5, vs5, d5, ds5, p5, q5, rfl, rfl, rfl, h5, r5⟩ := trodAll_cons r4
  obtain ⟨rfl, rfl, rfl⟩ := trodAll_nil r5
  obtain rfl : args = #[v0, v1, v2, v3, v4, v5] := by cases args; simp_all
  obtain ⟨rfl, rfl⟩ := trodVars_none hV
  obtain ⟨s0, rfl, rfl, rfl, hs0⟩ := open_string Tryz.underlying9 (hval 0 9 v0 rfl rfl) h0
  obtain ⟨s1, rfl, rfl, rfl, hs1⟩ := open_string Tryz.underlying9 (hval 1 9 v1 rfl rfl) h1
  obtain ⟨s2, rfl, rfl, rfl, hs2⟩ := open_string Tryz.underlying9 (hval 2 9 v2 rfl rfl) h2
  obtain ⟨a3, len3, cap3, rfl⟩ := okWide_slice Tryz.underlying22 (hval 3 22 v3 rfl rfl)
  have h3k := h3
  obtain ⟨a4, len4, cap4, rfl⟩ := okWide_slice Tryz.underlying22 (hval 4 22 v4 rfl rfl)
  have h4k := h4
  obtain ⟨a5, len5, cap5, rfl⟩ := okWide_slice Tryz.underlying22 (hval 5 22 v5 rfl rfl)
  have h5k := h5
  clear hA0
  simp only [List.append_nil, List.nil_append] at hW'
  have hlt : ∀ x ∈ p3 ++ (p4 ++ p5), x.block < W.heap.size := fun x hx => by simpa using hW'.lt x hx
  have harg3 : ∀ (W' : World) (sp : Nat → Bool), Below W.heap.size W W' → (∀ p ∈ p3, sp p.block = true) → DataW.Trod enc Tryz.prog W' 0 sp true 22 (.slice a3 len3 cap3) d3 p3 :=
    fun W' sp hn hsp => WideElems.Trod_stays (P := Tryz.prog) lm_laidOut (by kernel_rfl) (of_decide_eq_true (by kernel_rfl)) h3k (fun x hx => hn.same (hlt x (List.mem_append.2 (.inl hx)))) hsp
  have hI3 : ArgI W a3 len3 cap3 := arg_ints h3k
  have harg4 : ∀ (W' : World) (sp : Nat → Bool), Below W.heap.size W W' → (∀ p ∈ p4, sp p.block = true) → DataW.Trod enc Tryz.prog W' 0 sp true 22 (.slice a4 len4 cap4) d4 p4 :=
    fun W' sp hn hsp => WideElems.Trod_stays (P := Tryz.prog) lm_laidOut (by kernel_rfl) (of_decide_eq_true (by kernel_rfl)) h4k (fun x hx => hn.same (hlt x (List.mem_append.2 (.inr (List.mem_append.2 (.inl hx)))))) hsp
  have hI4 : ArgI W a4 len4 cap4 := arg_ints h4k
  have harg5 : ∀ (W' : World) (sp : Nat → Bool), Below W.heap.size W W' → (∀ p ∈ p5, sp p.block = true) → DataW.Trod enc Tryz.prog W' 0 sp true 22 (.slice a5 len5 cap5) d5 p5 :=
    fun W' sp hn hsp => WideElems.Trod_stays (P := Tryz.prog) lm_laidOut (by kernel_rfl) (of_decide_eq_true (by kernel_rfl)) h5k (fun x hx => hn.same (hlt x (List.mem_append.2 (.inr (List.mem_append.2 (.inr hx)))))) hsp
  have hI5 : ArgI W a5 len5 cap5 := arg_ints h5k
  refine (divisors_any s0 s1 s2 a3 len3 cap3 a4 len4 cap4 a5 len5 cap5 W (env_of hsh hL) (str_le hs0) (str_le hs1) (str_le hs2) hI3 hI4 hI5).mono fun e W' ⟨he, hg⟩ => ?_
  subst he
  exact ⟨_, rfl, post_fresh (pa := p3 ++ (p4 ++ p5)) (pv := []) hW' (fun _ _ _ => trodAll_cons_mk (shut_bool Tryz.underlying4 _) trodAll_mk0) (fun sp hsp => by
      have t := trodAll_cons_mk (shut_string Tryz.underlying9 hs0) (trodAll_cons_mk (shut_string Tryz.underlying9 hs1) (trodAll_cons_mk (shut_string Tryz.underlying9 hs2) (trodAll_cons_mk (harg3 W' sp hg (fun p hp => hsp p (List.mem_append.2 (.inl hp)))) (trodAll_cons_mk (harg4 W' sp hg (fun p hp => hsp p (List.mem_append.2 (.inr (List.mem_append.2 (.inl hp)))))) (trodAll_cons_mk (harg5 W' sp hg (fun p hp => hsp p (List.mem_append.2 (.inr (List.mem_append.2 (.inr hp)))))) trodAll_mk0)))))
      rw [show ([] : List MemPlace) ++ ([] ++ ([] ++ (p3 ++ (p4 ++ (p5 ++ []))))) = p3 ++ (p4 ++ p5) by simp] at t
      exact t) (fun _ _ => rfl) (by simp)
    hg (ok_one (by kernel_rfl) rfl (okWide_bool_mk Tryz.underlying4 _))⟩

set_option maxRecDepth 100000 in
theorem laid_met (os : Os) : laidMet Tryz.prog Rows.numberDivisorsRow.laid ((World.laidAll Tryz.prog os lays).forCall (fun _ _ => 0) ⟨#[], #[.string ⟨#[]⟩, .string ⟨#[]⟩, .string ⟨#[]⟩, .slice none 0 0, .slice none 0 0, .slice none 0 0], []⟩).memory :=
  laidMet_laidAll (laid := lays) _ (by kernel_rfl) (by kernel_rfl)
set_option maxRecDepth 100000 in
theorem reads (os : Os) {H : Type} (enc : TypeId × Value → H) : ∃ places, DataW.whole enc Tryz.prog ((World.laidAll Tryz.prog os lays).forCall (fun _ _ => 0) ⟨#[], #[.string ⟨#[]⟩, .string ⟨#[]⟩, .string ⟨#[]⟩, .slice none 0 0, .slice none 0 0, .slice none 0 0], []⟩).memory Tryz.f10.params.toList Rows.numberDivisorsSpec.vars false #[Value.string ⟨#[]⟩, .string ⟨#[]⟩, .string ⟨#[]⟩, .slice none 0 0, .slice none 0 0, .slice none 0 0].toList 8 = some ([.lit (.string []), .lit (.string []), .lit (.string []), .nil, .nil, .nil], [], places) :=
  ⟨[], by kernel_rfl⟩
set_option maxRecDepth 100000 in
theorem shaped0 (os : Os) : ((World.laidAll Tryz.prog os lays).forCall (fun _ _ => 0) ⟨#[], #[.string ⟨#[]⟩, .string ⟨#[]⟩, .string ⟨#[]⟩, .slice none 0 0, .slice none 0 0, .slice none 0 0], []⟩).Shaped Tryz.prog := World.shaped_of_ZipB (by kernel_rfl) (by kernel_rfl)
set_option maxRecDepth 100000 in
theorem okay0 (os : Os) : Input.okWideB Tryz.prog ((World.laidAll Tryz.prog os lays).forCall (fun _ _ => 0) ⟨#[], #[.string ⟨#[]⟩, .string ⟨#[]⟩, .string ⟨#[]⟩, .slice none 0 0, .slice none 0 0, .slice none 0 0], []⟩) 10 ⟨#[], #[.string ⟨#[]⟩, .string ⟨#[]⟩, .string ⟨#[]⟩, .slice none 0 0, .slice none 0 0, .slice none 0 0], []⟩ = true := by kernel_rfl
set_option maxRecDepth 100000 in
theorem lifted (os : Os) (started : os.Started) (H : Type) (enc : TypeId × Value → H) (F : Stop.Interp) :
    ReturnsInHanded {} Tryz.checked os 10 .any ((OpenSpec.ofChange Rows.numberDivisorsSpec).preRow enc Tryz.prog Tryz.f10 Rows.numberDivisorsRow.domain false Rows.numberDivisorsRow.laid) (((OpenSpec.ofChange Rows.numberDivisorsSpec).at F).post enc Tryz.prog Tryz.f10 false true false false) := by
  obtain ⟨places, hx⟩ := reads os enc
  refine returnsInHanded_of_row (C := Tryz.checked) (s := OpenSpec.ofChange Rows.numberDivisorsSpec) own started (by kernel_rfl) Tryz.func10
    (witness_zip (enc := enc) (C := Tryz.checked) (World.laidAll Tryz.prog os lays) #[.string ⟨#[]⟩, .string ⟨#[]⟩, .string ⟨#[]⟩, .slice none 0 0, .slice none 0 0, .slice none 0 0] (World.laidAll_os _ _ _) (shaped0 os) (okay0 os)
      (OpenSpec.preRow_of_cond 8 hx (by kernel_rfl) (fun k hk => by cases hk) (by kernel_rfl) (laid_met os))) ?_
  intro W base args ds gs before hval hW _ _ _ hL hsh _
  exact contract H enc W base args ds gs before hval hW hL hsh

set_option maxRecDepth 100000 in
theorem lm_plainKeys : Tryz.prog.plainKeys = Rows.numberDivisorsRow.plainKeys := by kernel_rfl
set_option maxRecDepth 100000 in
theorem lm_lifted : Tryz.prog.liftsFinal = Rows.numberDivisorsRow.lifted := by kernel_rfl
set_option maxRecDepth 100000 in
theorem lm_make : Tryz.prog.make = some Rows.numberDivisorsRow.make := by kernel_rfl
set_option maxRecDepth 100000 in
theorem lm_inPlace : (Rows.numberDivisorsRow.inPlace == Tryz.prog.inPlace 10) = true := by kernel_rfl
set_option maxRecDepth 100000 in
theorem lm_unfollowed : (Rows.numberDivisorsRow.unfollowed == Tryz.prog.unfollowed 10) = true := by kernel_rfl
set_option maxRecDepth 100000 in
theorem lm_recurses : (Rows.numberDivisorsRow.recurses == Tryz.prog.recurses 10) = true := by kernel_rfl
set_option maxRecDepth 100000 in
theorem lm_named : (Rows.numberDivisorsRow.named == Tryz.prog.varsNamed 10) = true := by kernel_rfl
set_option maxRecDepth 100000 in
theorem facts : joinedFacts Tryz.prog 10 Tryz.f10 Rows.numberDivisorsSpec Rows.numberDivisorsRow = true := by
  unfold joinedFacts
  rw [lm_laidOut, lm_maps, lm_plainKeys, lm_heard, lm_mayEnter, lm_lifted, lm_make, lm_inPlace, lm_unfollowed, lm_recurses, lm_named]
  kernel_rfl
set_option maxRecDepth 100000 in
theorem said : Rows.NumberDivisorsSaid :=
  OpenClaim.holds_of_cond 10 Tryz.f10 rfl rfl rfl rfl rfl rfl rfl ⟨rfl, rfl, rfl, rfl, rfl⟩ rfl rfl rfl rfl rfl (by kernel_rfl) Tryz.func10 facts
    (of_decide_eq_true (by kernel_rfl)) (by unfold Func.isWrapper; first | (rw [if_pos (by decide +kernel)]; kernel_rfl) | (rw [if_neg (by decide +kernel)]; exact ⟨rfl, rfl⟩))
    (fun os started H enc _ F => by rw [OpenClaim.pre_eq_preRow]; exact lifted os started H enc F)

theorem plain (f : FuncId) (fn : Func) (hf : Tryz.pinned.checked.prog.funcNamed Rows.numberDivisorsRow.func = some f) (hfn : Tryz.pinned.checked.prog.funcs[f]? = some fn) :
    true = Tryz.pinned.checked.prog.looks [] ∧ ∀ (j : Nat) t, fn.params[j]? = some t → Tryz.pinned.checked.prog.wantsStandIn t = false := by
  obtain rfl : f = 10 := Option.some.inj ((show Tryz.prog.funcNamed Rows.numberDivisorsRow.func = some 10 by kernel_rfl).symm.trans hf) |>.symm
  obtain rfl : fn = Tryz.f10 := (Option.some.inj (Tryz.func10.symm.trans hfn)).symm
  refine ⟨by kernel_rfl, fun j t ht => ?_⟩
  rw [Tryz.params10] at ht
  have hm := Array.mem_of_getElem? ht
  simp only [List.mem_toArray, List.mem_cons, List.not_mem_nil, or_false] at hm
  rcases hm with rfl | rfl | rfl | rfl | rfl | rfl
  · exact (show Tryz.prog.wantsStandIn 9 = false by kernel_rfl)
  · exact (show Tryz.prog.wantsStandIn 9 = false by kernel_rfl)
  · exact (show Tryz.prog.wantsStandIn 9 = false by kernel_rfl)
  · exact (show Tryz.prog.wantsStandIn 22 = false by kernel_rfl)
  · exact (show Tryz.prog.wantsStandIn 22 = false by kernel_rfl)
  · exact (show Tryz.prog.wantsStandIn 22 = false by kernel_rfl)

/-- the card -/
theorem card : Rows.NumberDivisorsCardSaid :=
  Claim7.holds_tied_plain_at .later [] _ _ _ _ said (fun _ h => by cases h) (by kernel_rfl) (fun _ h => by cases h) numberDivisors_row_tie rfl ⟨rfl, rfl⟩ (by kernel_rfl) rfl plain (by kernel_rfl)
end Divisors
end Go.Proofs.YtgehimcngljmnaaGreatDoor

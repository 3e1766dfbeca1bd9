/-
  PROVED HERE: for all lists of nodes a, b and all slices of ints k, l, m, TermCompare answers true and leaves its arguments as they were: the row's statement and its tied card.
  CONDITIONS: those of the row alone (seven package variables hold what the program's text lays: math/bits.deBruijn32tab, math/bits.deBruijn64tab, internal/strconv.uint64pow10, unicode/utf8.acceptRanges, unicode/utf8.first, strconv.ErrRange, strconv.ErrSyntax; internal/bytealg.MaxLen holds any number).
-/
import Derived.Test.YtapdbeaoakcjeaaGreatDoorCVO
import Derived.Test.YtapdbeaoakcjeaaGreatDoorCYC
import Derived.Deep.Slices
namespace Go.Proofs.YtapdbeaoakcjeaaGreatDoor.Se
open Go.ChangeShapes Go.WideShapes Go.ChangeAt Go.RowKit Go.ChangeMaps

theorem cells_int : Tryz.prog.cellsOf 3 = 1 := by kernel_rfl
theorem arg_ints {H : Type} {enc : TypeId × Value → H} {W : World} {a0 : Option Addr} {len cap : Nat} {d : DataW H} {ps : List MemPlace} (h : DataW.Trod enc Tryz.prog W 0 (fun _ => true) true 23 (.slice a0 len cap) d ps) : ArgI W a0 len cap := by
  obtain ⟨fuel, hf⟩ := h;rcases open_ints Tryz.underlying23 Tryz.underlying3 cells_int hf with ⟨hcs, _⟩ | ⟨a, len', cap', zs, hcs, _, hl, hm, hz, _, hcell, _⟩
  · simp [Value.cells] at hcs
    obtain ⟨rfl, rfl, rfl⟩ := hcs;exact ⟨Nat.le_refl _, Nat.zero_le _, fun h => absurd h (by omega)⟩
  · simp [Value.cells] at hcs
    obtain ⟨rfl, rfl, rfl⟩ := hcs;simp only [if_true] at hz;refine ⟨hl, hm, fun h0 => ?_⟩;obtain ⟨b, off, spot⟩ := a;have hspot : spot = none := by simpa [Addr.add] using World.cell?_spot (hcell 0 (by omega))
    subst hspot;have hcell' : ∀ j, j < zs.length → W.cell? ⟨b, off + j, none⟩ = some (.int .i64 (zs.getD j 0)) := fun j hj => by rw [← add_plain]; exact hcell j hj
    exact ⟨b, off, rfl, World.block_lt_of_cell? _ _ (hcell' 0 (by omega)), fun t ht => ⟨_, hcell' t (by omega)⟩⟩
theorem cells_str : Tryz.prog.cellsOf 9 = 1 := by kernel_rfl
theorem cells_node : Tryz.prog.cellsOf 34 = 5 := by kernel_rfl
instance : Inhabited Nd := ⟨⟨0, 0, ⟨#[]⟩, ⟨#[]⟩, 0⟩⟩
set_option maxRecDepth 100000 in
/-- a node's five cells -/
theorem arg_node {H : Type} {enc : TypeId × Value → H} {W : World} {fuel : Nat} {cs : List Value} {x : DataW H × List MemPlace} (h : DataW.trod enc Tryz.prog W 0 (fun _ => true) true fuel 34 cs = some x) : ∃ y : Nd, cs = y.cells := by
  obtain ⟨xs, k, -, -, hlen, hxl, hf⟩ := DataW.trod_struct Tryz.underlying34 h;rw [cells_node] at hlen
  match cs, hlen, xs, hxl with
  | [c0, c1, c2, c3, c4], _, [y0, y1, y2, y3, y4], _ =>
    have g0 := hf 0 _ rfl;have g1 := hf 1 _ rfl;have g2 := hf 2 _ rfl;have g3 := hf 3 _ rfl;have g4 := hf 4 _ rfl
    simp [cells_int, cells_str] at g0 g1 g2 g3 g4
    obtain ⟨n0, e0, -, -⟩ := DataW.trod_int Tryz.underlying3 (show DataW.trod enc Tryz.prog W 0 (fun _ => true) true k 3 [c0] = some y0 from g0);obtain ⟨n1, e1, -, -⟩ := DataW.trod_int Tryz.underlying3 (show DataW.trod enc Tryz.prog W 0 (fun _ => true) true k 3 [c1] = some y1 from g1);obtain ⟨s2, e2, -, -⟩ := DataW.trod_string Tryz.underlying9 (show DataW.trod enc Tryz.prog W 0 (fun _ => true) true k 9 [c2] = some y2 from g2);obtain ⟨s3, e3, -, -⟩ := DataW.trod_string Tryz.underlying9 (show DataW.trod enc Tryz.prog W 0 (fun _ => true) true k 9 [c3] = some y3 from g3);obtain ⟨n4, e4, -, -⟩ := DataW.trod_int Tryz.underlying3 (show DataW.trod enc Tryz.prog W 0 (fun _ => true) true k 3 [c4] = some y4 from g4);injection e0 with e0;injection e1 with e1;injection e2 with e2;injection e3 with e3;injection e4 with e4;exact ⟨⟨n0, n1, s2, s3, n4⟩, by rw [e0, e1, e2, e3, e4]; rfl⟩
theorem arg_nodes {H : Type} {enc : TypeId × Value → H} {W : World} {a0 : Option Addr} {len cap : Nat} {d : DataW H} {ps : List MemPlace} (h : DataW.Trod enc Tryz.prog W 0 (fun _ => true) true 22 (.slice a0 len cap) d ps) : ∃ ts : List Nd, ts.length = len ∧ NodesO W a0 ts := by
  obtain ⟨fuel, hf⟩ := h;rcases Go.Deep.open_slice Tryz.underlying22 hf with ⟨hcs, -⟩ | ⟨a, len', cap', m, k, D, Pl, hcs, -, hl, -, hm, -, hx⟩
  · simp [Value.cells] at hcs
    obtain ⟨rfl, rfl, rfl⟩ := hcs;exact ⟨[], rfl, fun h => absurd rfl h⟩
  · simp [Value.cells] at hcs
    obtain ⟨rfl, rfl, rfl⟩ := hcs;simp only [if_true] at hm;subst hm
    have each : ∀ i, i < m → ∃ y : Nd, ∀ j, j < 5 → W.cell? ((a.add (i * 5)).add j) = y.cells[j]? := fun i hi => by
      obtain ⟨cs, h1, h2⟩ := hx i hi;rw [cells_node] at h1;obtain ⟨-, hlen, hcell⟩ := World.cells?_some h1;obtain ⟨y, rfl⟩ := arg_node h2;exact ⟨y, fun j hj => by rw [hcell j (by omega)]⟩
    obtain ⟨f, hf⟩ := Go.Deep.choose_lt each;refine ⟨(List.range len).map f, by rw [List.length_map, List.length_range], fun hn => ?_⟩;rw [List.length_map, List.length_range] at hn;obtain ⟨b, off, spot⟩ := a;have h00 : W.cell? (((⟨b, off, spot⟩ : Addr).add (0 * 5)).add 0) = some (.int .i64 (f 0).op) := hf 0 (by omega) 0 (by omega);have hspot : spot = none := by simpa [Addr.add] using World.cell?_spot h00
    subst hspot;rw [add_plain, add_plain] at h00;refine ⟨b, off, rfl, World.block_lt_of_cell? _ _ h00, fun i x hi j hj => ?_⟩
    have hil : i < len := by
      have := (List.getElem?_eq_some_iff.1 hi).1;rwa [List.length_map, List.length_range] at this
    obtain rfl : f i = x := by
      rw [List.getElem?_map, List.getElem?_range hil] at hi;exact Option.some.inj hi
    have h := hf i (by omega) j hj;rwa [add_plain, add_plain] at h

namespace Compares
set_option maxRecDepth 100000 in
theorem contract (H : Type) (enc : TypeId × Value → H) (W : World) (base : Nat) (args : Array Value) (ds gs : List (DataW H)) (before : List MemPlace)
    (hval : ∀ (j : Nat) t v, Tryz.f3.params[j]? = some t → args[j]? = some v → Value.okWide Tryz.prog W .any base t v)
    (hW : DataW.Whole enc Tryz.prog Tryz.f3.params.toList Rows.termCompareSpec.vars false W args.toList ds gs before)
    (hL : laidMet Tryz.prog lays W) (hsh : W.ShapedOpen Tryz.prog) :
    Calls Tryz.prog 3 args W fun e W' => ∃ v, e = .returned v ∧ Rows.termCompareSpec.post enc Tryz.prog Tryz.f3 false true false false W args v W' := by
  have hW' := hW;obtain ⟨p, q, hA0, hV, rfl, hfz, hnd⟩ := hW;have hA : DataW.TrodAll enc Tryz.prog W 0 (fun _ => true) true Tryz.f3.params.toList args.toList ds p := hA0;rw [Tryz.params3] at hA hval;obtain ⟨v0, vs0, d0, ds0, p0, q0, hargs, rfl, rfl, h0, r0⟩ := trodAll_cons hA;obtain ⟨v1, vs1, d1, ds1, p1, q1, rfl, rfl, rfl, h1, r1⟩ := trodAll_cons r0;obtain ⟨v2, vs2, d2, ds2, p2, q2, rfl, rfl, rfl, h2, r2⟩ := trodAll_cons r1;obtain ⟨v3, vs3, d3, ds3, p3, q3, rfl, rfl, rfl, h3, r3⟩ := trodAll_cons r2;obtain ⟨v4, vs4, d4, ds4, p4, q4, rfl, rfl, rfl, h4, r4⟩ := trodAll_cons r3;obtain ⟨rfl, rfl, rfl⟩ := trodAll_nil r4;obtain rfl : args = #[v0, v1, v2, v3, v4] := by cases args; simp_all
  obtain ⟨rfl, rfl⟩ := trodVars_none hV;obtain ⟨a0, len0, cap0, rfl⟩ := okWide_slice Tryz.underlying22 (hval 0 22 v0 rfl rfl);have h0k := h0;obtain ⟨ts0, rfl, hN0⟩ := arg_nodes h0k;obtain ⟨a1, len1, cap1, rfl⟩ := okWide_slice Tryz.underlying22 (hval 1 22 v1 rfl rfl);have h1k := h1;obtain ⟨ts1, rfl, hN1⟩ := arg_nodes h1k;obtain ⟨a2, len2, cap2, rfl⟩ := okWide_slice Tryz.underlying23 (hval 2 23 v2 rfl rfl);have h2k := h2;obtain ⟨a3, len3, cap3, rfl⟩ := okWide_slice Tryz.underlying23 (hval 3 23 v3 rfl rfl);have h3k := h3;obtain ⟨a4, len4, cap4, rfl⟩ := okWide_slice Tryz.underlying23 (hval 4 23 v4 rfl rfl);have h4k := h4;clear hA0;simp only [List.append_nil] at hW';have hlt : ∀ x ∈ p0 ++ (p1 ++ (p2 ++ (p3 ++ p4))), x.block < W.heap.size := fun x hx => by simpa using hW'.lt x hx
  have harg0 : ∀ (W' : World) (sp : Nat → Bool), Below W.heap.size W W' → (∀ p ∈ p0, sp p.block = true) → DataW.Trod enc Tryz.prog W' 0 sp true 22 (.slice a0 ts0.length cap0) d0 p0 :=
    fun W' sp hn hsp => WideElems.Trod_stays (P := Tryz.prog) lm_laidOut (by kernel_rfl) (of_decide_eq_true (by kernel_rfl)) h0k (fun x hx => hn.same (hlt x (List.mem_append.2 (.inl hx)))) hsp
  have harg1 : ∀ (W' : World) (sp : Nat → Bool), Below W.heap.size W W' → (∀ p ∈ p1, sp p.block = true) → DataW.Trod enc Tryz.prog W' 0 sp true 22 (.slice a1 ts1.length cap1) d1 p1 :=
    fun W' sp hn hsp => WideElems.Trod_stays (P := Tryz.prog) lm_laidOut (by kernel_rfl) (of_decide_eq_true (by kernel_rfl)) h1k (fun x hx => hn.same (hlt x (List.mem_append.2 (.inr (List.mem_append.2 (.inl hx)))))) hsp
  have harg2 : ∀ (W' : World) (sp : Nat → Bool), Below W.heap.size W W' → (∀ p ∈ p2, sp p.block = true) → DataW.Trod enc Tryz.prog W' 0 sp true 23 (.slice a2 len2 cap2) d2 p2 :=
    fun W' sp hn hsp => WideElems.Trod_stays (P := Tryz.prog) lm_laidOut (by kernel_rfl) (of_decide_eq_true (by kernel_rfl)) h2k (fun x hx => hn.same (hlt x (List.mem_append.2 (.inr (List.mem_append.2 (.inr (List.mem_append.2 (.inl hx)))))))) hsp
  have harg3 : ∀ (W' : World) (sp : Nat → Bool), Below W.heap.size W W' → (∀ p ∈ p3, sp p.block = true) → DataW.Trod enc Tryz.prog W' 0 sp true 23 (.slice a3 len3 cap3) d3 p3 :=
    fun W' sp hn hsp => WideElems.Trod_stays (P := Tryz.prog) lm_laidOut (by kernel_rfl) (of_decide_eq_true (by kernel_rfl)) h3k (fun x hx => hn.same (hlt x (List.mem_append.2 (.inr (List.mem_append.2 (.inr (List.mem_append.2 (.inr (List.mem_append.2 (.inl hx)))))))))) hsp
  have harg4 : ∀ (W' : World) (sp : Nat → Bool), Below W.heap.size W W' → (∀ p ∈ p4, sp p.block = true) → DataW.Trod enc Tryz.prog W' 0 sp true 23 (.slice a4 len4 cap4) d4 p4 :=
    fun W' sp hn hsp => WideElems.Trod_stays (P := Tryz.prog) lm_laidOut (by kernel_rfl) (of_decide_eq_true (by kernel_rfl)) h4k (fun x hx => hn.same (hlt x (List.mem_append.2 (.inr (List.mem_append.2 (.inr (List.mem_append.2 (.inr (List.mem_append.2 (.inr hx)))))))))) hsp
  refine (compare_law a0 a1 cap0 cap1 ts0 ts1 a2 a3 a4 len2 cap2 len3 cap3 len4 cap4 W (env_of hsh hL) hN0 hN1 (arg_ints h2k) (arg_ints h3k) (arg_ints h4k)).mono fun e W' ⟨he, hg⟩ => ?_
  subst he
  exact ⟨_, rfl, post_fresh (pa := p0 ++ (p1 ++ (p2 ++ (p3 ++ p4)))) (pv := []) hW' (fun _ _ _ => trodAll_cons_mk (shut_bool Tryz.underlying4 _) trodAll_mk0) (fun sp hsp => by
      have t := trodAll_cons_mk (harg0 W' sp hg (fun p hp => hsp p (List.mem_append.2 (.inl hp)))) (trodAll_cons_mk (harg1 W' sp hg (fun p hp => hsp p (List.mem_append.2 (.inr (List.mem_append.2 (.inl hp)))))) (trodAll_cons_mk (harg2 W' sp hg (fun p hp => hsp p (List.mem_append.2 (.inr (List.mem_append.2 (.inr (List.mem_append.2 (.inl hp)))))))) (trodAll_cons_mk (harg3 W' sp hg (fun p hp => hsp p (List.mem_append.2 (.inr (List.mem_append.2 (.inr (List.mem_append.2 (.inr (List.mem_append.2 (.inl hp)))))))))) (trodAll_cons_mk (harg4 W' sp hg (fun p hp => hsp p (List.mem_append.2 (.inr (List.mem_append.2 (.inr (List.mem_append.2 (.inr (List.mem_append.2 (.inr hp)))))))))) trodAll_mk0))));rw [show p0 ++ (p1 ++ (p2 ++ (p3 ++ (p4 ++ [])))) = p0 ++ (p1 ++ (p2 ++ (p3 ++ p4))) by simp] at t
      exact t) (fun _ _ => rfl) (by simp)
    hg (ok_one (by kernel_rfl) rfl (okWide_bool_mk Tryz.underlying4 _))⟩

set_option maxRecDepth 100000 in
theorem laid_met (os : Os) : laidMet Tryz.prog Rows.termCompareRow.laid ((World.laidAll Tryz.prog os lays).forCall (fun _ _ => 0) ⟨#[], #[.slice none 0 0, .slice none 0 0, .slice none 0 0, .slice none 0 0, .slice none 0 0], []⟩).memory :=
  laidMet_laidAll (laid := lays) _ (by kernel_rfl) (by kernel_rfl)
set_option maxRecDepth 100000 in
theorem reads (os : Os) {H : Type} (enc : TypeId × Value → H) : ∃ places, DataW.whole enc Tryz.prog ((World.laidAll Tryz.prog os lays).forCall (fun _ _ => 0) ⟨#[], #[.slice none 0 0, .slice none 0 0, .slice none 0 0, .slice none 0 0, .slice none 0 0], []⟩).memory Tryz.f3.params.toList Rows.termCompareSpec.vars false #[Value.slice none 0 0, .slice none 0 0, .slice none 0 0, .slice none 0 0, .slice none 0 0].toList 8 = some ([.nil, .nil, .nil, .nil, .nil], [], places) :=
  ⟨[], by kernel_rfl⟩
set_option maxRecDepth 100000 in
theorem shaped0 (os : Os) : ((World.laidAll Tryz.prog os lays).forCall (fun _ _ => 0) ⟨#[], #[.slice none 0 0, .slice none 0 0, .slice none 0 0, .slice none 0 0, .slice none 0 0], []⟩).Shaped Tryz.prog := World.shaped_of_ZipB (by kernel_rfl) (by kernel_rfl)
set_option maxRecDepth 100000 in
theorem okay0 (os : Os) : Input.okWideB Tryz.prog ((World.laidAll Tryz.prog os lays).forCall (fun _ _ => 0) ⟨#[], #[.slice none 0 0, .slice none 0 0, .slice none 0 0, .slice none 0 0, .slice none 0 0], []⟩) 3 ⟨#[], #[.slice none 0 0, .slice none 0 0, .slice none 0 0, .slice none 0 0, .slice none 0 0], []⟩ = true := by kernel_rfl
set_option maxRecDepth 100000 in
theorem lifted (os : Os) (started : os.Started) (H : Type) (enc : TypeId × Value → H) (F : Stop.Interp) :
    ReturnsInHanded {} Tryz.checked os 3 .any ((OpenSpec.ofChange Rows.termCompareSpec).preRow enc Tryz.prog Tryz.f3 Rows.termCompareRow.domain false Rows.termCompareRow.laid) (((OpenSpec.ofChange Rows.termCompareSpec).at F).post enc Tryz.prog Tryz.f3 false true false false) := by
  obtain ⟨places, hx⟩ := reads os enc
  refine returnsInHanded_of_row (C := Tryz.checked) (s := OpenSpec.ofChange Rows.termCompareSpec) own started (by kernel_rfl) Tryz.func3
    (witness_zip (enc := enc) (C := Tryz.checked) (World.laidAll Tryz.prog os lays) #[.slice none 0 0, .slice none 0 0, .slice none 0 0, .slice none 0 0, .slice none 0 0] (World.laidAll_os _ _ _) (shaped0 os) (okay0 os)
      (OpenSpec.preRow_of_cond 8 hx (by kernel_rfl) (fun k hk => by cases hk) (by kernel_rfl) (laid_met os))) ?_
  intro W base args ds gs before hval hW _ _ _ hL hsh _;exact contract H enc W base args ds gs before hval hW hL hsh

set_option maxRecDepth 100000 in
theorem lm_plainKeys : Tryz.prog.plainKeys = Rows.termCompareRow.plainKeys := by kernel_rfl
set_option maxRecDepth 100000 in
theorem lm_lifted : Tryz.prog.liftsFinal = Rows.termCompareRow.lifted := by kernel_rfl
set_option maxRecDepth 100000 in
theorem lm_make : Tryz.prog.make = some Rows.termCompareRow.make := by kernel_rfl
set_option maxRecDepth 100000 in
theorem lm_inPlace : (Rows.termCompareRow.inPlace == Tryz.prog.inPlace 3) = true := by kernel_rfl
set_option maxRecDepth 100000 in
theorem lm_unfollowed : (Rows.termCompareRow.unfollowed == Tryz.prog.unfollowed 3) = true := by kernel_rfl
set_option maxRecDepth 100000 in
theorem lm_recurses : (Rows.termCompareRow.recurses == Tryz.prog.recurses 3) = true := by kernel_rfl
set_option maxRecDepth 100000 in
theorem lm_named : (Rows.termCompareRow.named == Tryz.prog.varsNamed 3) = true := by kernel_rfl
set_option maxRecDepth 100000 in
theorem facts : joinedFacts Tryz.prog 3 Tryz.f3 Rows.termCompareSpec Rows.termCompareRow = true := by
  unfold joinedFacts;rw [lm_laidOut, lm_maps, lm_plainKeys, lm_heard, lm_mayEnter, lm_lifted, lm_make, lm_inPlace, lm_unfollowed, lm_recurses, lm_named]
  kernel_rfl
set_option maxRecDepth 100000 in
theorem said : Rows.TermCompareSaid :=
  OpenClaim.holds_of_cond 3 Tryz.f3 rfl rfl rfl rfl rfl rfl rfl ⟨rfl, rfl, rfl, rfl, rfl⟩ rfl rfl rfl rfl rfl (by kernel_rfl) Tryz.func3 facts
    (of_decide_eq_true (by kernel_rfl)) (by unfold Func.isWrapper; first | (rw [if_pos (by decide +kernel)]; kernel_rfl) | (rw [if_neg (by decide +kernel)]; exact ⟨rfl, rfl⟩))
    (fun os started H enc _ F => by rw [OpenClaim.pre_eq_preRow]; exact lifted os started H enc F)

theorem plain (f : FuncId) (fn : Func) (hf : Tryz.pinned.checked.prog.funcNamed Rows.termCompareRow.func = some f) (hfn : Tryz.pinned.checked.prog.funcs[f]? = some fn) :
    true = Tryz.pinned.checked.prog.looks [] ∧ ∀ (j : Nat) t, fn.params[j]? = some t → Tryz.pinned.checked.prog.wantsStandIn t = false := by
  obtain rfl : f = 3 := Option.some.inj ((show Tryz.prog.funcNamed Rows.termCompareRow.func = some 3 by kernel_rfl).symm.trans hf) |>.symm;obtain rfl : fn = Tryz.f3 := (Option.some.inj (Tryz.func3.symm.trans hfn)).symm;refine ⟨by kernel_rfl, fun j t ht => ?_⟩;rw [Tryz.params3] at ht;have hm := Array.mem_of_getElem? ht;simp only [List.mem_toArray, List.mem_cons, List.not_mem_nil, or_false] at hm;rcases hm with rfl | rfl | rfl | rfl | rfl
  iterate 2
    · exact (show Tryz.prog.wantsStandIn 22 = false by kernel_rfl)
  iterate 3
    · exact (show Tryz.prog.wantsStandIn 23 = false by kernel_rfl)

/-- the card -/
theorem card : Rows.TermCompareCardSaid :=
  Claim7.holds_tied_plain_at .later [] _ _ _ _ said (fun _ h => by cases h) (by kernel_rfl) (fun _ h => by cases h) termCompare_row_tie rfl ⟨rfl, rfl⟩ (by kernel_rfl) rfl plain (by kernel_rfl)
end Compares
end Go.Proofs.YtapdbeaoakcjeaaGreatDoor.Se

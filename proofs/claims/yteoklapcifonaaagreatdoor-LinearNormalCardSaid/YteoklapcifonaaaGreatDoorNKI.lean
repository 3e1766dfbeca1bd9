/-
  PROVED HERE: for all slices of ints l and all constraints raw, LinearNormal answers true and leaves its arguments as they were: the row's statement and its tied card.
  CONDITIONS: those of the row alone (five package variables hold what the program's text lays: math/bits.deBruijn32tab, math/bits.deBruijn64tab, internal/strconv.uint64pow10, strconv.ErrRange, strconv.ErrSyntax; internal/bytealg.MaxLen holds any number).
-/
import Derived.Test.YteoklapcifonaaaGreatDoorNLV
import Derived.Test.YteoklapcifonaaaGreatDoorNKH
import Derived.Deep.SlicePairs
namespace Go.Proofs.YteoklapcifonaaaGreatDoor
open Go.ChangeShapes Go.WideShapes Go.ChangeAt Go.RowKit Go.ChangeMaps
theorem cells_str1 : Tryz.prog.cellsOf 9 = 1 := by kernel_rfl
theorem cells_coef2 : Tryz.prog.cellsOf 79 = 2 := by kernel_rfl
theorem cells_coefs1 : Tryz.prog.cellsOf 24 = 1 := by kernel_rfl
theorem cells_lin3 : Tryz.prog.cellsOf 26 = 3 := by kernel_rfl
theorem cells_con5 : Tryz.prog.cellsOf 39 = 5 := by kernel_rfl
theorem okWide_struct {P : Program} {w : World} {r : Reach} {base : Nat} {t : TypeId} {v : Value} {fs : Array Field} (ht : P.underlying t = some (.struct fs)) (h : Value.okWide P w r base t v) : ∃ cs, v = .agg cs ∧ cs.size = P.cellsOf t := by
 unfold Value.okWide at h;rw [ht] at h;obtain ⟨cs, h1, h2, -⟩ := h;exact ⟨cs, h1, h2⟩
/-- the text in a value that is one -/
def strv : Value → ByteArray
 | .string s => s
 | _ => ⟨#[]⟩
section
variable {H : Type} {enc : TypeId × Value → H} {W : World} {fuel : Nat} {cs : List Value} {x : DataW H × List MemPlace}
theorem arg_coefs (h : DataW.trod enc Tryz.prog W 0 (fun _ => true) true fuel 24 cs = some x) : ∃ ao n cap g off rs, cs = [.slice ao n cap] ∧ rs.length = n ∧ RSl W ao g off cap rs := by
 rcases Go.Deep.open_slice_pairs Tryz.underlying24 Tryz.underlying79 cells_coef2 rfl rfl cells_str1 cells_str1 h with ⟨hcs, -⟩ | ⟨a, len, cap, m, n, V0, V1, D0, D1, P0, P1, hcs, -, hl, hm, hmm, -, hx⟩
 · exact ⟨none, 0, 0, 0, 0, [], hcs, rfl, ⟨Nat.le_refl _, Nat.zero_le _, fun h => absurd h (Nat.lt_irrefl _), fun i hi => absurd hi (Nat.not_lt_zero i), fun i hi => absurd hi (Nat.not_lt_zero i)⟩⟩
 · rw [if_pos rfl] at hmm;subst hmm
   have hc : ∀ i, i < m → W.cell? (a.add (i * 2)) = some (.string (strv (V0 i))) ∧ W.cell? (a.add (i * 2 + 1)) = some (.string (strv (V1 i))) := fun i hi => by
    obtain ⟨h1, h2, h3, h4⟩ := hx i hi;obtain ⟨s, e3, -, -⟩ := DataW.trod_string Tryz.underlying9 h3;obtain ⟨u, e4, -, -⟩ := DataW.trod_string Tryz.underlying9 h4;injection e3 with e3;injection e4 with e4;rw [h1, h2, e3, e4];exact ⟨rfl, rfl⟩
   by_cases h0 : m = 0
   · subst h0;have hl0 : len = 0 := by omega
     subst hl0;exact ⟨some a, 0, 0, 0, 0, [], hcs, rfl, ⟨Nat.le_refl _, Nat.zero_le _, fun h => absurd h (Nat.lt_irrefl _), fun i hi => absurd hi (Nat.not_lt_zero i), fun i hi => absurd hi (Nat.not_lt_zero i)⟩⟩
   · obtain ⟨b, off, spot⟩ := a;have hspot : spot = none := by simpa [Addr.add] using World.cell?_spot (hc 0 (by omega)).1
     subst hspot;have hll : ((List.range len).map fun i => (strv (V0 i), strv (V1 i))).length = len := by rw [List.length_map, List.length_range]
     refine ⟨some ⟨b, off, none⟩, len, m, b, off, (List.range len).map fun i => (strv (V0 i), strv (V1 i)), hcs, hll, ⟨by rw [hll]; exact hl, Nat.le_trans hm (by decide), fun _ => rfl, fun i hi => ?_, fun i hi => ?_⟩⟩
     all_goals
      rw [hll] at hi;have h2 := hc i (by omega);rw [add_plain, add_plain] at h2;rw [List.getElem_map, List.getElem_range]
      first | exact h2.1 | exact h2.2
set_option maxRecDepth 100000 in
theorem arg_linear (h : DataW.trod enc Tryz.prog W 0 (fun _ => true) true fuel 26 cs = some x) : ∃ s ao n cap t g off rs, cs = [.int .i64 s, .slice ao n cap, .string t] ∧ rs.length = n ∧ RSl W ao g off cap rs := by
 obtain ⟨xs, k, -, -, hlen, hxl, hf⟩ := DataW.trod_struct Tryz.underlying26 h;rw [cells_lin3] at hlen
 match cs, hlen, xs, hxl with
 | [c0, c1, c2], _, [y0, y1, y2], _ =>
   have g0 := hf 0 _ rfl;have g1 := hf 1 _ rfl;have g2 := hf 2 _ rfl
   simp [cells_int, cells_coefs1, cells_str1] at g0 g1 g2
   obtain ⟨s, e0, -, -⟩ := DataW.trod_int Tryz.underlying3 (show DataW.trod enc Tryz.prog W 0 (fun _ => true) true k 3 [c0] = some y0 from g0);obtain ⟨ao, n, cap, g, off, rs, e1, hn, hr⟩ := arg_coefs (show DataW.trod enc Tryz.prog W 0 (fun _ => true) true k 24 [c1] = some y1 from g1);obtain ⟨t, e2, -, -⟩ := DataW.trod_string Tryz.underlying9 (show DataW.trod enc Tryz.prog W 0 (fun _ => true) true k 9 [c2] = some y2 from g2);injection e0 with e0;injection e1 with e1;injection e2 with e2;exact ⟨s, ao, n, cap, t, g, off, rs, by rw [e0, e1, e2], hn, hr⟩
set_option maxRecDepth 100000 in
theorem arg_constraint (h : DataW.trod enc Tryz.prog W 0 (fun _ => true) true fuel 39 cs = some x) : ∃ r s ao n cap t tm g off rs, cs = [.int .i64 r, .int .i64 s, .slice ao n cap, .string t, .string tm] ∧ rs.length = n ∧ RSl W ao g off cap rs ∧ tm.size ≤ maxLen := by
 obtain ⟨xs, k, -, -, hlen, hxl, hf⟩ := DataW.trod_struct Tryz.underlying39 h;rw [cells_con5] at hlen
 match cs, hlen, xs, hxl with
 | [c0, c1, c2, c3, c4], _, [y0, y1, y2], _ =>
   have g0 := hf 0 _ rfl;have g1 := hf 1 _ rfl;have g2 := hf 2 _ rfl
   simp [cells_int, cells_lin3, cells_str1] at g0 g1 g2
   obtain ⟨r, e0, -, -⟩ := DataW.trod_int Tryz.underlying3 (show DataW.trod enc Tryz.prog W 0 (fun _ => true) true k 3 [c0] = some y0 from g0);obtain ⟨s, ao, n, cap, t, g, off, rs, e1, hn, hr⟩ := arg_linear (show DataW.trod enc Tryz.prog W 0 (fun _ => true) true k 26 [c1, c2, c3] = some y1 from g1);obtain ⟨tm, e2, -, hw⟩ := DataW.trod_string Tryz.underlying9 (show DataW.trod enc Tryz.prog W 0 (fun _ => true) true k 9 [c4] = some y2 from g2);injection e0 with e0;injection e1 with e1 e3;injection e3 with e3 e4;injection e4 with e4;injection e2 with e2;exact ⟨r, s, ao, n, cap, t, tm, g, off, rs, by rw [e0, e1, e3, e4, e2], hn, hr, hw⟩
end
namespace Normals
set_option maxRecDepth 100000 in
theorem contract (H : Type) (enc : TypeId × Value → H) (W : World) (base : Nat) (args : Array Value) (ds gs : List (DataW H)) (before : List MemPlace)
    (hval : ∀ (j : Nat) t v, Tryz.f6.params[j]? = some t → args[j]? = some v → Value.okWide Tryz.prog W .any base t v)
    (hW : DataW.Whole enc Tryz.prog Tryz.f6.params.toList Rows.linearNormalSpec.vars false W args.toList ds gs before)
    (hL : laidMet Tryz.prog lays W) (hsh : W.ShapedOpen Tryz.prog) :
    Calls Tryz.prog 6 args W fun e W' => ∃ v, e = .returned v ∧ Rows.linearNormalSpec.post enc Tryz.prog Tryz.f6 false true false false W args v W' := by
 have hW' := hW;obtain ⟨p, q, hA0, hV, rfl, hfz, hnd⟩ := hW;have hA : DataW.TrodAll enc Tryz.prog W 0 (fun _ => true) true Tryz.f6.params.toList args.toList ds p := hA0;rw [Tryz.params6] at hA hval;obtain ⟨v0, vs0, d0, ds0, p0, q0, hargs, rfl, rfl, h0, r0⟩ := trodAll_cons hA;obtain ⟨v1, vs1, d1, ds1, p1, q1, rfl, rfl, rfl, h1, r1⟩ := trodAll_cons r0;obtain ⟨rfl, rfl, rfl⟩ := trodAll_nil r1;obtain rfl : args = #[v0, v1] := by cases args; simp_all
 obtain ⟨rfl, rfl⟩ := trodVars_none hV;obtain ⟨a0, len0, cap0, rfl⟩ := okWide_slice Tryz.underlying22 (hval 0 22 v0 rfl rfl);have h0k := h0;obtain ⟨cs1, rfl, -⟩ := okWide_struct Tryz.underlying39 (hval 1 39 v1 rfl rfl);have h1k := h1;obtain ⟨f1, hf1⟩ := h1;obtain ⟨rr, s1, a1, n1, c1, t1, tm, g1, o1, rs1, e1, hn1, hr1, htm⟩ := arg_constraint hf1
 obtain rfl : cs1 = #[.int .i64 rr, .int .i64 s1, .slice a1 n1 c1, .string t1, .string tm] := by
  have e : cs1.toList = [.int .i64 rr, .int .i64 s1, .slice a1 n1 c1, .string t1, .string tm] := e1;rw [← Array.toArray_toList (xs := cs1), e]
 clear hA0;simp only [List.append_nil] at hW';have hlt : ∀ x ∈ p0 ++ p1, x.block < W.heap.size := fun x hx => by simpa using hW'.lt x hx
 have harg0 : ∀ (W' : World) (sp : Nat → Bool), Below W.heap.size W W' → (∀ p ∈ p0, sp p.block = true) → DataW.Trod enc Tryz.prog W' 0 sp true 22 (.slice a0 len0 cap0) d0 p0 :=
  fun W' sp hn hsp => WideElems.Trod_stays (P := Tryz.prog) lm_laidOut (by kernel_rfl) (of_decide_eq_true (by kernel_rfl)) h0k (fun x hx => hn.same (hlt x (List.mem_append.2 (.inl hx)))) hsp
 have harg1 : ∀ (W' : World) (sp : Nat → Bool), Below W.heap.size W W' → (∀ p ∈ p1, sp p.block = true) → DataW.Trod enc Tryz.prog W' 0 sp true 39 (.agg #[.int .i64 rr, .int .i64 s1, .slice a1 n1 c1, .string t1, .string tm]) d1 p1 :=
  fun W' sp hn hsp => WideElems.Trod_stays (P := Tryz.prog) lm_laidOut (by kernel_rfl) (of_decide_eq_true (by kernel_rfl)) h1k (fun x hx => hn.same (hlt x (List.mem_append.2 (.inr hx)))) hsp
 refine (lawNormal_any a0 len0 cap0 rr s1 a1 g1 o1 n1 c1 t1 tm rs1 W (env_of hsh hL) (arg_ints h0k) hr1 hn1 (Nat.le_trans htm (by decide))).mono fun e W' ⟨he, hg⟩ => ?_
 subst he
 exact ⟨_, rfl, post_fresh (pa := p0 ++ p1) (pv := []) hW' (fun _ _ _ => trodAll_cons_mk (shut_bool Tryz.underlying4 _) trodAll_mk0) (fun sp hsp => by
     have t := trodAll_cons_mk (harg0 W' sp hg (fun p hp => hsp p (List.mem_append.2 (.inl hp)))) (trodAll_cons_mk (harg1 W' sp hg (fun p hp => hsp p (List.mem_append.2 (.inr hp)))) trodAll_mk0);rw [show p0 ++ (p1 ++ []) = p0 ++ p1 by simp] at t
     exact t) (fun _ _ => rfl) (by simp)
  hg (ok_one (by kernel_rfl) rfl (okWide_bool_mk Tryz.underlying4 _))⟩
set_option maxRecDepth 100000 in
theorem laid_met (os : Os) : laidMet Tryz.prog Rows.linearNormalRow.laid ((World.laidAll Tryz.prog os lays).forCall (fun _ _ => 0) ⟨#[], #[.slice none 0 0, .agg #[.int .i64 0, .int .i64 0, .slice none 0 0, .string ⟨#[]⟩, .string ⟨#[]⟩]], []⟩).memory :=
 laidMet_laidAll (laid := lays) _ (by kernel_rfl) (by kernel_rfl)
set_option maxRecDepth 100000 in
theorem reads (os : Os) {H : Type} (enc : TypeId × Value → H) : ∃ places, DataW.whole enc Tryz.prog ((World.laidAll Tryz.prog os lays).forCall (fun _ _ => 0) ⟨#[], #[.slice none 0 0, .agg #[.int .i64 0, .int .i64 0, .slice none 0 0, .string ⟨#[]⟩, .string ⟨#[]⟩]], []⟩).memory Tryz.f6.params.toList Rows.linearNormalSpec.vars false #[Value.slice none 0 0, .agg #[.int .i64 0, .int .i64 0, .slice none 0 0, .string ⟨#[]⟩, .string ⟨#[]⟩]].toList 8 = some ([.nil, .agg [.lit (.int .i64 0), .agg [.lit (.int .i64 0), .nil, .lit (.string [])], .lit (.string [])]], [], places) :=
 ⟨[], by kernel_rfl⟩
set_option maxRecDepth 100000 in
theorem shaped0 (os : Os) : ((World.laidAll Tryz.prog os lays).forCall (fun _ _ => 0) ⟨#[], #[.slice none 0 0, .agg #[.int .i64 0, .int .i64 0, .slice none 0 0, .string ⟨#[]⟩, .string ⟨#[]⟩]], []⟩).Shaped Tryz.prog := World.shaped_of_ZipB (by kernel_rfl) (by kernel_rfl)
set_option maxRecDepth 100000 in
theorem okay0 (os : Os) : Input.okWideB Tryz.prog ((World.laidAll Tryz.prog os lays).forCall (fun _ _ => 0) ⟨#[], #[.slice none 0 0, .agg #[.int .i64 0, .int .i64 0, .slice none 0 0, .string ⟨#[]⟩, .string ⟨#[]⟩]], []⟩) 6 ⟨#[], #[.slice none 0 0, .agg #[.int .i64 0, .int .i64 0, .slice none 0 0, .string ⟨#[]⟩, .string ⟨#[]⟩]], []⟩ = true := by kernel_rfl
set_option maxRecDepth 100000 in
theorem lifted (os : Os) (started : os.Started) (H : Type) (enc : TypeId × Value → H) (F : Stop.Interp) :
    ReturnsInHanded {} Tryz.checked os 6 .any ((OpenSpec.ofChange Rows.linearNormalSpec).preRow enc Tryz.prog Tryz.f6 Rows.linearNormalRow.domain false Rows.linearNormalRow.laid) (((OpenSpec.ofChange Rows.linearNormalSpec).at F).post enc Tryz.prog Tryz.f6 false true false false) := by
 obtain ⟨places, hx⟩ := reads os enc
 refine returnsInHanded_of_row (C := Tryz.checked) (s := OpenSpec.ofChange Rows.linearNormalSpec) own started (by kernel_rfl) Tryz.func6
  (witness_zip (enc := enc) (C := Tryz.checked) (World.laidAll Tryz.prog os lays) #[.slice none 0 0, .agg #[.int .i64 0, .int .i64 0, .slice none 0 0, .string ⟨#[]⟩, .string ⟨#[]⟩]] (World.laidAll_os _ _ _) (shaped0 os) (okay0 os)
    (OpenSpec.preRow_of_cond 8 hx (by kernel_rfl) (fun k hk => by cases hk) (by kernel_rfl) (laid_met os))) ?_
 intro W base args ds gs before hval hW _ _ _ hL hsh _;exact contract H enc W base args ds gs before hval hW hL hsh
set_option maxRecDepth 100000 in
theorem lm_plainKeys : Tryz.prog.plainKeys = Rows.linearNormalRow.plainKeys := by kernel_rfl
set_option maxRecDepth 100000 in
theorem lm_lifted : Tryz.prog.liftsFinal = Rows.linearNormalRow.lifted := by kernel_rfl
set_option maxRecDepth 100000 in
theorem lm_make : Tryz.prog.make = some Rows.linearNormalRow.make := by kernel_rfl
set_option maxRecDepth 100000 in
theorem lm_inPlace : (Rows.linearNormalRow.inPlace == Tryz.prog.inPlace 6) = true := by kernel_rfl
set_option maxRecDepth 100000 in
theorem lm_unfollowed : (Rows.linearNormalRow.unfollowed == Tryz.prog.unfollowed 6) = true := by kernel_rfl
set_option maxRecDepth 100000 in
theorem lm_recurses : (Rows.linearNormalRow.recurses == Tryz.prog.recurses 6) = true := by kernel_rfl
set_option maxRecDepth 100000 in
theorem lm_named : (Rows.linearNormalRow.named == Tryz.prog.varsNamed 6) = true := by kernel_rfl
set_option maxRecDepth 100000 in
theorem facts : joinedFacts Tryz.prog 6 Tryz.f6 Rows.linearNormalSpec Rows.linearNormalRow = true := by
 unfold joinedFacts;rw [lm_laidOut, lm_maps, lm_plainKeys, lm_heard, lm_mayEnter, lm_lifted, lm_make, lm_inPlace, lm_unfollowed, lm_recurses, lm_named]
 kernel_rfl
set_option maxRecDepth 100000 in
theorem said : Rows.LinearNormalSaid :=
 OpenClaim.holds_of_cond 6 Tryz.f6 rfl rfl rfl rfl rfl rfl rfl ⟨rfl, rfl, rfl, rfl, rfl⟩ rfl rfl rfl rfl rfl (by kernel_rfl) Tryz.func6 facts
  (of_decide_eq_true (by kernel_rfl)) (by unfold Func.isWrapper; first | (rw [if_pos (by decide +kernel)]; kernel_rfl) | (rw [if_neg (by decide +kernel)]; exact ⟨rfl, rfl⟩))
  (fun os started H enc _ F => by rw [OpenClaim.pre_eq_preRow]; exact lifted os started H enc F)
theorem plain (f : FuncId) (fn : Func) (hf : Tryz.pinned.checked.prog.funcNamed Rows.linearNormalRow.func = some f) (hfn : Tryz.pinned.checked.prog.funcs[f]? = some fn) :
    true = Tryz.pinned.checked.prog.looks [] ∧ ∀ (j : Nat) t, fn.params[j]? = some t → Tryz.pinned.checked.prog.wantsStandIn t = false := by
 obtain rfl : f = 6 := Option.some.inj ((show Tryz.prog.funcNamed Rows.linearNormalRow.func = some 6 by kernel_rfl).symm.trans hf) |>.symm;obtain rfl : fn = Tryz.f6 := (Option.some.inj (Tryz.func6.symm.trans hfn)).symm;refine ⟨by kernel_rfl, fun j t ht => ?_⟩;rw [Tryz.params6] at ht;have hm := Array.mem_of_getElem? ht;simp only [List.mem_toArray, List.mem_cons, List.not_mem_nil, or_false] at hm;rcases hm with rfl | rfl
 · exact (show Tryz.prog.wantsStandIn 22 = false by kernel_rfl)
 · exact (show Tryz.prog.wantsStandIn 39 = false by kernel_rfl)
/-- the card -/
theorem card : Rows.LinearNormalCardSaid :=
 Claim7.holds_tied_plain_at .later [] _ _ _ _ said (fun _ h => by cases h) (by kernel_rfl) (fun _ h => by cases h) linearNormal_row_tie rfl ⟨rfl, rfl⟩ (by kernel_rfl) rfl plain (by kernel_rfl)
end Normals
end Go.Proofs.YteoklapcifonaaaGreatDoor

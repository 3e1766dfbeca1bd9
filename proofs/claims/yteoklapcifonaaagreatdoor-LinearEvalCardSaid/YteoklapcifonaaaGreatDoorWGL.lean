/- Values of sums, multiples and replacements: plain facts. -/
import Derived.Test.YteoklapcifonaaaGreatDoorWGF
import Derived.Test.YteoklapcifonaaaGreatDoorWQA
import Derived.Test.YteoklapcifonaaaGreatDoorWGK
import Derived.Test.YteoklapcifonaaaGreatDoorWMJ
namespace Go.Proofs.YteoklapcifonaaaGreatDoor
open Go.RowKit Nmx

/-- an environment of numbers of one sort -/
def toG (s : Int) (es : List (List UInt8 × Rat)) : List (List UInt8 × Int × Rat) := es.map fun x => (x.1, s, x.2)
end Go.Proofs.YteoklapcifonaaaGreatDoor
/- LinearEval's walk. -/
namespace Go.Proofs.YteoklapcifonaaaGreatDoor
open Go.RowKit Nmx

theorem CX.grown {w w' : World} {S : Nat} {r s : Int} {ao : Option Addr} {n cap : Nat} {tx tm : ByteArray} {d : Nat} {c : Rat} {cs : List (List UInt8 × Rat)} {C : Nat} {bo : Option Addr} {m cp : Nat} (h : CX w S r s ao n cap tx tm d c cs) (hc : Ch C bo m cp w) (hS : S < C) (hg : w.grownBy w' (some C)) : CX w' S r s ao n cap tx tm d c cs :=
  ⟨(hg.block _ (lt_of_heap h.h) (fun e => by have := Option.some.inj e; omega)).trans h.h, h.l.grown hc hg⟩
section
set_option maxRecDepth 100000
set_option maxHeartbeats 8000000
theorem linearEnv_row (C : Nat) (ao : Option Addr) (n cap : Nat) (s : Int) (w : World) (h : Ch C ao n cap w) : Calls Tryz.prog 34 #[.pointer (some ⟨C, 0, none⟩), .int .i64 s] w fun e w' => ∃ es v, e = .returned v ∧ EV w' v s es ∧ w'.ownsRow (w.heap.size + 1) 65 6 v es.length (flatB s es) ∧ Ch C ao n cap w' ∧ w.grownBy w' (some C) := by
  have hal := alloc_far w (.cells #[.string ⟨#[117]⟩, .string ⟨#[118]⟩, .string ⟨#[120]⟩, .string ⟨#[121]⟩] 9);have HS := Lib.hid (⟨h.call hal, heap_alloc_new w _, World.ownsRow_nil _ _ _ _, h.lt, Nat.le_refl _, grown_more (r := some C) (grown_below hal)⟩ : GE w (w.alloc (.cells #[.string ⟨#[117]⟩, .string ⟨#[118]⟩, .string ⟨#[120]⟩, .string ⟨#[121]⟩] 9)) C ao n cap s w.heap.size (.slice none 0 0) []);clear h hal
  go_enter Tryz.func34, Tryz.ntmps34
  go_wp2_with fail
  generalize w.alloc (.cells #[.string ⟨#[117]⟩, .string ⟨#[118]⟩, .string ⟨#[120]⟩, .string ⟨#[121]⟩] 9) = w1 at *;obtain ⟨M, hM⟩ : ∃ M, w.heap.size = M := ⟨_, rfl⟩
  have HSM : Hid (GE w w1 C ao n cap s M (.slice none 0 0) []) := Lib.hid (by rw [← hM]; exact HS.out);have HMM := Lib.hid hM;rw [hM];clear hM HS
  go_loopg [5, 7] 4 (fun gh v5 v7 wr => ∃ (i : Nat) (v : Value) (r : List (List UInt8 × Rat)), gh = 4 - i ∧ i ≤ 4 ∧ v7 = .int .i64 i ∧ v5 = v ∧ GE w wr C ao n cap s M v r ∧ r.map (·.1) = nm4.take i ∧ ∀ x ∈ r, NumOk s x.2)
  case atStart => exact ⟨0, _, [], rfl, by omega, rfl, rfl, HSM.out, rfl, fun x hx => (List.not_mem_nil hx).elim⟩
  case round =>
    obtain ⟨i, v, r, rfl, hi, rfl, hv5, hge, hnm, hok⟩ := hrel;have hv := hv5.symm;subst hv;clear hv5;have HG := Lib.hid hge;have HNM := Lib.hid hnm;have HOK := Lib.hid hok;clear hge hnm hok HSM;have hi0 : (0 : Int) ≤ (i : Int) := by omega
    by_cases hlt : i < 4
    · have hlt' : (i : Int) < 4 := by omega
      obtain ⟨nm, hnm, htk⟩ := nm4_get i hlt;have HN := Lib.hid hnm;have HTK := Lib.hid htk;obtain ⟨tn, htn⟩ : ∃ tn : ByteArray, (⟨nm.toArray⟩ : ByteArray) = tn := ⟨_, rfl⟩
      have HTN := Lib.hid htn
      have hrl : r.length ≤ 4 := by
        have := congrArg List.length HNM.out;rw [List.length_map, List.length_take] at this
        omega
      have HRL := Lib.hid hrl;clear hnm htk htn hrl;obtain ⟨i0, hi0', hz0, hz1, hz2⟩ := info_parts infoBind
      go_wp2_with fail
      refine add_regionR (chOk C ao n cap) [[], [], [], [1, 2], [1, 2, 3], [], [], [], [6, 7], [5, 6, 7, 8], [1, 2, 3, 4, 5, 6, 7, 8, 9], [1, 2, 3, 4, 5, 6, 7, 8, 9, 10], [0, 1, 2, 3, 4, 5, 6, 7, 8, 9, 10, 11], [0, 1, 2, 3, 4, 5, 6, 7, 8, 9, 10, 11, 12]] (fun W => GE w W C ao n cap s M v r) (fun _ => True) ?_
      iterate 8
        apply a_con
        · intro x; go_simp; done
        · intro x W R hW hF hR;have e2 := (heap_cell hW.hm i).trans HN.out;rw [HTN.out] at e2;clear hF;unfold addAt
          go_simp
          simp only [addUpon];exact hR _ ⟨grown_refl _ _, id⟩
        simp only [Act.put, List.setIfInBounds_toArray, List.set_cons_zero, List.set_cons_succ]
      refine a_opqF (fun u => ∃ q, NumOk s q ∧ u = .string (TX q)) (fun _ _ => True) (fun _ _ _ _ _ => trivial) ?_ ?_ ?_
      · intro x; go_simp; done
      · intro x W R hW hF hR;clear hF;unfold addAt
        go_simp
        simp only [addUpon];refine (num_any C ao n cap s W hW.ch).mono ?_;rintro e w' ⟨q, hq, rfl, hc, hg⟩;exact ⟨_, rfl, hR _ _ ⟨q, hq, rfl⟩ trivial ⟨hg, fun _ => hc⟩⟩
      simp only [Act.put, List.setIfInBounds_toArray, List.set_cons_zero, List.set_cons_succ, List.length_cons, List.length_nil, Nat.zero_add, Nat.reduceAdd];refine a_opqF (fun u => ∃ q, NumOk s q ∧ u = .agg #[.int .i64 s, .bool false, .string (TX q), .slice none 0 0, .slice none 0 0]) (fun _ _ => True) (fun _ _ _ _ _ => trivial) ?_ ?_ ?_
      · intro x; go_simp; done
      · intro x W R hW hF hR;have hs := hF.1.1 rfl;simp only [AK.free] at hs;obtain ⟨q, hq, hx⟩ := hs;simp only [hx];clear hF;unfold addAt
        go_simp
        simp only [addUpon];exact hR _ _ ⟨q, hq, rfl⟩ trivial ⟨grown_refl _ _, id⟩
      simp only [Act.put, List.setIfInBounds_toArray, List.set_cons_zero, List.set_cons_succ, List.length_cons, List.length_nil, Nat.zero_add, Nat.reduceAdd];refine a_opqF (fun u => ∃ q, NumOk s q ∧ u = .agg #[.string tn, .int .i64 s, .bool false, .string (TX q), .slice none 0 0, .slice none 0 0]) (fun _ _ => True) (fun _ _ _ _ _ => trivial) ?_ ?_ ?_
      · intro x; go_simp; done
      · intro x W R hW hF hR;have hs := hF.1.1 rfl;simp only [AK.free] at hs;obtain ⟨q, hq, hx⟩ := hs;simp only [hx];clear hF;unfold addAt
        go_simp
        simp only [addUpon];exact hR _ _ ⟨q, hq, rfl⟩ trivial ⟨grown_refl _ _, id⟩
      simp only [Act.put, List.setIfInBounds_toArray, List.set_cons_zero, List.set_cons_succ, List.length_cons, List.length_nil, Nat.zero_add, Nat.reduceAdd];refine a_opq (fun u W => ∃ q B, NumOk s q ∧ C < B ∧ u = .slice (some ⟨B, 0, none⟩) 1 1 ∧ W.heap[B]? = some (.cells #[.string tn, .int .i64 s, .bool false, .string (TX q), .slice none 0 0, .slice none 0 0] 65 (0, 0))) (fun _ _ _ h hb => let ⟨q, B, h1, h2, h3, h4⟩ := h; ⟨q, B, h1, h2, h3, (hb.1.block _ (lt_of_heap h4) (fun e => by have := Option.some.inj e; omega)).trans h4⟩) ?_ ?_ ?_
      · intro x; go_simp; done
      · intro x W R hW hF hR;have hs := hF.1.1 rfl;simp only [AK.free] at hs;obtain ⟨q, hq, hx⟩ := hs;simp only [hx];clear hF;unfold addAt
        go_simp
        simp only [addUpon];have hal := alloc_far W (.cells #[.string tn, .int .i64 s, .bool false, .string (TX q), .slice none 0 0, .slice none 0 0] 65);exact hR _ _ ⟨q, W.heap.size, hq, hW.ch.lt, rfl, heap_alloc_new _ _⟩ ⟨grown_more (r := some C) (grown_below hal), fun h => h.call hal⟩
      simp only [Act.put, List.setIfInBounds_toArray, List.set_cons_zero, List.set_cons_succ, List.length_cons, List.length_nil, Nat.zero_add, Nat.reduceAdd];refine a_wrt (fun x W => ∃ q, NumOk s q ∧ GE w W C ao n cap s M (x 12) (r ++ [(nm, q)])) (fun _ _ _ h hb => let ⟨q, h1, h2⟩ := h; ⟨q, h1, h2.call hb⟩) (fun x x' w h hT => by have e := h 12 (.inl rfl); rw [e] at hT; exact hT) ?_ ?_ ?_
      · intro x; go_simp; done
      · intro x W R hW hF hD hR;obtain ⟨q, B, hq, -, hx, hB⟩ := hF.1.2 rfl rfl rfl;clear hF;simp only [hx];have hrl := HRL.out;refine addAt_append (.tmp 15) (.tmp 26) 52 rfl (M + 1) 65 i0 _ 6 96 Tryz.underlying52 hi0' hz0 hz1 hz2 rfl (by decide) v r.length (flatB s r) rfl hW.row ⟨B, 0, none⟩ 1 1 [.string tn, .int .i64 s, .bool false, .string (TX q), .slice none 0 0, .slice none 0 0] rfl rfl (World.news_of_block (cs := #[.string tn, .int .i64 s, .bool false, .string (TX q), .slice none 0 0, .slice none 0 0]) hB) (by simp [Value.oneCell']) (by unfold maxLen; omega) (by omega) (lt_of_heap hW.hm) ?_;intro v' w' hrow hg;refine hR _ _ ?_ trivial hg.size;show ∃ q, NumOk s q ∧ GE w w' C ao n cap s M (updX x 12 v' 12) (r ++ [(nm, q)]);rw [updX_self];refine ⟨q, hq, hW.grow (x := (nm, q)) hg ?_⟩;rw [HTN.out];exact hrow
      simp only [Act.put, List.setIfInBounds_toArray, List.set_cons_zero, List.set_cons_succ, List.length_cons, List.length_nil, Nat.zero_add, Nat.reduceAdd];refine a_freX (fun x => x 13 = x 12) (fun x x' hx h => by rw [← hx 13 (.inl rfl), ← hx 12 (.inr (List.contains_iff_mem.1 rfl))]; exact h) ?_ ?_ ?_
      · intro x; go_simp; done
      · intro x W R hW hF hR;clear hF;unfold addAt
        go_simp
        simp only [addUpon];refine hR _ _ ?_ ⟨grown_refl _ _, id⟩;show updX x 13 _ 13 = updX x 13 _ 12;rw [updX_self, updX_ne (i := 13) (j := 12) _ _ (by decide)]
      simp only [Act.put, List.setIfInBounds_toArray, List.set_cons_zero, List.set_cons_succ, List.length_cons, List.length_nil, Nat.zero_add, Nat.reduceAdd];refine a_nil (by kernel_rfl) (by kernel_rfl) (by kernel_rfl) (fun _ _ h hb => h.call hb) (fun _ _ _ _ => trivial) (fun _ _ => trivial) (HG.out.call (w' := wr.drew) ⟨grown_more (r := some C) (grown_below (Below.refl _ _).drew), fun h => h.call (Below.refl _ _).drew⟩) ?_;intro x W hE hW hF hD;clear hD;obtain ⟨q, hq, hge⟩ := hF.2.1.2 rfl;have hx := hF.1.1;simp only [AK.free] at hx;simp only [hx];have HL := Lib.hid hge;have HQ := Lib.hid hq;clear hF hx hge hq hW hE
      go_wp2_with fail
      go_roundg (4 - (i + 1))
      case rel =>
        refine ⟨i + 1, _, r ++ [(nm, q)], rfl, by omega, by go_num, rfl, HL.out, ?_, fun x hx => ?_⟩
        · rw [HTK.out, List.map_append, HNM.out]; rfl
        · rcases List.mem_append.1 hx with h1 | h1
          · exact HOK.out x h1
          · rw [List.mem_singleton.1 h1]; exact HQ.out
      case measure => omega
    · have hlt' : ¬ ((i : Int) < 4) := by omega
      have h4 : i = 4 := by omega
      subst h4;have hrw := HG.out.row;rw [← HMM.out] at hrw;have HRW := Lib.hid hrw;obtain ⟨ao', g, cp, rfl, hb⟩ := bsl_of_row HG.out.row;clear hrw;have HBS := Lib.hid hb;clear hb
      go_wp2
      go_ret
      exact ⟨r, _, rfl, ⟨ao', g, cp, rfl, HBS.out, HNM.out, HOK.out⟩, HRW.out, HG.out.ch, HG.out.gr⟩
/-- the environment from an index on, in its block -/
structure EB2 (w : World) (g cap : Nat) (s : Int) (es : List (List UInt8 × Rat)) : Prop where
  blk : ∃ cur, w.heap[g]? = some (.cells cur 65 (0, 0)) ∧ cur.size = cap * 6 ∧ cur.toList.take 24 = flatB s es
  len : es.length = 4
  c4 : 4 ≤ cap
  most : cap ≤ 9223372036854775807
  ok : ∀ x ∈ es, NumOk s x.2
theorem eb2_of {w : World} {v : Value} {base : Nat} {s : Int} {es : List (List UInt8 × Rat)} (he : EV w v s es) (h : w.ownsRow base 65 6 v es.length (flatB s es)) : ∃ g cap, v = .slice (some ⟨g, 0, none⟩) 4 cap ∧ base ≤ g ∧ EB2 w g cap s es := by
  obtain ⟨-, -, -, -, -, hg⟩ := he
  have h4 : es.length = 4 := by
    have := congrArg List.length hg.nm;rwa [List.length_map] at this
  rw [h4] at h;rcases h.2 with ⟨-, hn⟩ | ⟨g, cap, cur, hv, hb, hbl, hn, hc, hs, htake⟩
  · cases hn
  · exact ⟨g, cap, hv, hb, ⟨cur, hbl, hs, htake⟩, h4, hn, hc, hg.ok⟩
theorem take_get {α : Type} {l t : List α} {n i : Nat} {v : α} (h : l.take n = t) (hv : t[i]? = some v) : l[i]? = some v := by
  rw [← h, List.getElem?_take] at hv
  split at hv
  · exact hv
  · cases hv
theorem toG_drop_get {s : Int} {es : List (List UInt8 × Rat)} {k i : Nat} (h : i < ((toG s es).drop k).length) (hk : k + i < es.length) : ((toG s es).drop k)[i] = (es[k + i].1, s, es[k + i].2) := by
  rw [List.getElem_drop];unfold toG;rw [List.getElem_map]
theorem toG_drop_len {s : Int} {es : List (List UInt8 × Rat)} {k : Nat} : ((toG s es).drop k).length = es.length - k := by
  rw [List.length_drop]; unfold toG; rw [List.length_map]
theorem toG_ok {s : Int} {es : List (List UInt8 × Rat)} (hs : s = 2 ∨ s = 3) (h : ∀ x ∈ es, NumOk s x.2) : ∀ x ∈ toG s es, EntOk 26 x.2 := by
  intro x hx;obtain ⟨y, hy, rfl⟩ := List.mem_map.1 hx;exact .inr ⟨hs, h y hy⟩
theorem EB2.get {w : World} {g cap : Nat} {s : Int} {es : List (List UInt8 × Rat)} (h : EB2 w g cap s es) (i : Nat) (hi : i < es.length) (c : Nat) (v : Value) (hv : (#[.string ⟨es[i].1.toArray⟩, .int .i64 s, .bool false, .string (TX es[i].2), .slice none 0 0, .slice none 0 0] : Array Value)[c]? = some v) : w.cell? ⟨g, i * 6 + c, none⟩ = some v := by
  obtain ⟨cur, hb, -, ht⟩ := h.blk;rw [heap_cell hb];have := take_get ht (flatB_get s es i hi c v hv)
  simpa using this
/-- the environment without its first bindings -/
theorem EB2.drop {w : World} {g cap : Nat} {s : Int} {es : List (List UInt8 × Rat)} (hs : s = 2 ∨ s = 3) (h : EB2 w g cap s es) {k : Nat} (hk : k ≤ 2) : EG w (.slice (some ⟨g, k * 6, none⟩) (4 - k) (cap - k)) 26 ((toG s es).drop k) := by
  have h4 := h.len;have hc4 := h.c4;have hl : ((toG s es).drop k).length = 4 - k := by rw [toG_drop_len, h4]
  refine ⟨some ⟨g, k * 6, none⟩, g, k * 6, cap - k, by rw [hl], ⟨by omega, by have := h.most; omega, fun _ => rfl, fun i hi c v hv => ?_⟩, fun x hx => toG_ok hs h.ok x (List.mem_of_mem_drop hx)⟩;rw [hl] at hi;have hki : k + i < es.length := by omega
  rw [toG_drop_get (by rw [hl]; exact hi) hki] at hv
  dsimp only at hv
  rw [txE_num hs] at hv;have := h.get (k + i) hki c v hv;rw [show k * 6 + i * 6 + c = (k + i) * 6 + c by omega];exact this
/-- .. and a bool at the first place -/
theorem EB2.bool {w w' : World} {g cap : Nat} {s : Int} {es : List (List UInt8 × Rat)} (hs : s = 2 ∨ s = 3) (h : EB2 w g cap s es) {k : Nat} (hk : k ≤ 2) (hw : ∀ cur, w.heap[g]? = some (.cells cur 65 (0, 0)) → w'.heap[g]? = some (.cells (((((cur.setIfInBounds (k * 6 + 1) (.int .i64 1)).setIfInBounds (k * 6 + 2) (.bool false)).setIfInBounds (k * 6 + 3) (.string ⟨#[]⟩)).setIfInBounds (k * 6 + 4) (.slice none 0 0)).setIfInBounds (k * 6 + 5) (.slice none 0 0)) 65 (0, 0))) :
    ∃ E, E.length = 4 - k ∧ EG w' (.slice (some ⟨g, k * 6, none⟩) (4 - k) (cap - k)) 26 E := by
  have h4 := h.len;have hc4 := h.c4;obtain ⟨cur, hb, hsz, ht⟩ := h.blk;have hn := hw cur hb;have hl : ((toG s es).drop k).length = 4 - k := by rw [toG_drop_len, h4]
  have hk4 : k < es.length := by omega
  refine ⟨(es[k].1, 1, 0) :: (toG s es).drop (k + 1), by rw [List.length_cons, toG_drop_len, h4]; omega, some ⟨g, k * 6, none⟩, g, k * 6, cap - k, by rw [List.length_cons, toG_drop_len, h4, show 4 - (k + 1) + 1 = 4 - k by omega], ⟨by rw [List.length_cons, toG_drop_len, h4]; omega, by have := h.most; omega, fun _ => rfl, fun i hi c v hv => ?_⟩, fun x hx => ?_⟩
  · rw [heap_cell hn]
    have hc6 : c < 6 := by
      have := (Array.getElem?_eq_some_iff.1 hv).1
      simpa using this
    cases i with
    | zero =>
      have hv' : (#[.string ⟨es[k].1.toArray⟩, .int .i64 1, .bool false, .string ⟨#[]⟩, .slice none 0 0, .slice none 0 0] : Array Value)[c]? = some v := hv;have hsz2 : k * 6 + 5 < cur.size := by omega
      rw [show k * 6 + 0 * 6 + c = k * 6 + c by omega]
      match c, hc6 with
      | 0, _ =>
        have h0 := h.get k hk4 0 _ rfl;rw [heap_cell hb] at h0;cases hv'
        simp only [Array.getElem?_setIfInBounds];rw [if_neg (by omega), if_neg (by omega), if_neg (by omega), if_neg (by omega), if_neg (by omega)];exact h0
      | 1, _ =>
        have hv2 : some (Value.int .i64 1) = some v := hv';rw [← hv2];simp only [Array.getElem?_setIfInBounds, Array.size_setIfInBounds];rw [if_neg (by omega), if_neg (by omega), if_neg (by omega), if_neg (by omega), if_pos trivial, if_pos (by omega)]
      | 2, _ =>
        have hv2 : some (Value.bool false) = some v := hv';rw [← hv2];simp only [Array.getElem?_setIfInBounds, Array.size_setIfInBounds];rw [if_neg (by omega), if_neg (by omega), if_neg (by omega), if_pos trivial, if_pos (by omega)]
      | 3, _ =>
        have hv2 : some (Value.string ⟨#[]⟩) = some v := hv';rw [← hv2];simp only [Array.getElem?_setIfInBounds, Array.size_setIfInBounds];rw [if_neg (by omega), if_neg (by omega), if_pos trivial, if_pos (by omega)]
      | 4, _ =>
        have hv2 : some (Value.slice none 0 0) = some v := hv';rw [← hv2];simp only [Array.getElem?_setIfInBounds, Array.size_setIfInBounds];rw [if_neg (by omega), if_pos trivial, if_pos (by omega)]
      | 5, _ =>
        have hv2 : some (Value.slice none 0 0) = some v := hv';rw [← hv2];simp only [Array.getElem?_setIfInBounds, Array.size_setIfInBounds];rw [if_pos trivial, if_pos (by omega)]
    | succ i =>
      have hi2 : i < ((toG s es).drop (k + 1)).length := by simpa using hi
      have hi3 : k + 1 + i < es.length := by rw [toG_drop_len] at hi2; omega
      have e : ((es[k].1, (1 : Int), (0 : Rat)) :: (toG s es).drop (k + 1))[i + 1] = (es[k + 1 + i].1, s, es[k + 1 + i].2) := by
        rw [List.getElem_cons_succ];exact toG_drop_get hi2 hi3
      rw [e] at hv
      dsimp only at hv
      rw [txE_num hs] at hv;have h0 := h.get (k + 1 + i) hi3 c v hv;rw [heap_cell hb] at h0;simp only [Array.getElem?_setIfInBounds];rw [if_neg (by omega), if_neg (by omega), if_neg (by omega), if_neg (by omega), if_neg (by omega), show k * 6 + (i + 1) * 6 + c = (k + 1 + i) * 6 + c by omega];exact h0
  · rcases List.mem_cons.1 hx with rfl | hx
    · exact .inl rfl
    · exact toG_ok hs h.ok x (List.mem_of_mem_drop hx)
theorem lawEval_any (al : Option Addr) (ll cl : Nat) (am : Option Addr) (lm cm : Nat) (sk ct : Int) (w : World) (hE : Env w) (hl : ArgI w al ll cl) (hm : ArgI w am lm cm) :
    Calls Tryz.prog 10 #[.slice al ll cl, .slice am lm cm, .int .i64 sk, .int .i64 ct] w fun e w' => e = .returned (.bool true) ∧ Below w.heap.size w w' := by
  have HE := Lib.hid hE;have HAl := Lib.hid hl;have HAm := Lib.hid hm;clear hE hl hm
  go_enter Tryz.func10, Tryz.ntmps10
  go_wp2_with fail
  refine (new_any al ll cl _ HAl.out).mono ?_;rintro e w1 ⟨rfl, rfl⟩
  go_wp2_with fail
  refine (constraint_any _ _ _ _ _ (ch_newL HAl.out)).mono ?_;rintro e w1 ⟨r, s, cs, q, bo, m, cp, tx, tm, rfl, lc, hok, -, hg⟩;have HB := Lib.hid (new_far hg);have LC := Lib.hid lc;have HOK := Lib.hid hok;clear hg lc hok HAl
  go_wp2_with fail
  have HXc := Lib.hid (CX.new (r := r) (tm := tm) LC.out);replace HB := Lib.hid (HB.out.trans ((alloc_far w1 (.cells #[.int .i64 r, .int .i64 s, .slice bo m cp, .string tx, .string tm] 39)).mono HB.out.size));clear LC;generalize w1.alloc (.cells #[.int .i64 r, .int .i64 s, .slice bo m cp, .string tx, .string tm] 39) = w2 at *;generalize w1.heap.size = S at *;refine (new_any am lm cm w2 (HAm.out.far HB.out)).mono ?_;rintro e w3 ⟨rfl, rfl⟩;have HCH := Lib.hid (ch_newL (HAm.out.far HB.out));have hal := alloc_far w2 (.cells #[.slice am (min lm 400) cm, .int .i64 0] 76);have HSC : Hid (S < w2.heap.size) := Lib.hid (lt_of_heap HXc.out.h);have HWC : Hid (w.heap.size ≤ w2.heap.size) := Lib.hid HB.out.size;replace HXc := Lib.hid (HXc.out.far hal);replace HB := Lib.hid (HB.out.trans (hal.mono HB.out.size));clear hal HAm;generalize w2.alloc (.cells #[.slice am (min lm 400) cm, .int .i64 0] 76) = w3 at *;generalize w2.heap.size = C at *
  go_wp2_with fail
  refine (modS sk 2 _ (by decide) (by decide)).mono ?_;rintro e w4 ⟨a, ha0, ha1, rfl, rfl⟩;have hwr : IntKind.i64.wrap (2 + a) = 2 + a := by rw [IntKind.wrap_i64]; omega
  go_wp2_with fail
  obtain ⟨s2, hs2⟩ : ∃ s2, 2 + a = s2 := ⟨_, rfl⟩
  have HS2 : Hid (s2 = 2 ∨ s2 = 3) := Lib.hid (by omega);rw [hs2];clear hs2 hwr ha0 ha1;refine (linearEnv_row C am (min lm 400) cm s2 _ HCH.out).mono ?_;rintro e w5 ⟨es, v, rfl, hev, hrow, -, hg⟩;obtain ⟨g, cap, rfl, hgb, heb⟩ := eb2_of hev hrow;have HGB : Hid (w.heap.size ≤ g) := Lib.hid (by have := HB.out.size; omega);replace HXc := Lib.hid (HXc.out.grown HCH.out HSC.out hg);replace HB := Lib.hid (HB.out.grown hg HB.out.size (fun k e => by cases e; exact HWC.out));have HEB := Lib.hid heb;clear hev hrow hgb heb hg HCH HSC HWC
  go_wp2_with fail
  refine (modS ct 3 _ (by decide) (by decide)).mono ?_;rintro e w6 ⟨k, hk0, hk1, rfl, rfl⟩;have hc4 := HEB.out.c4;have hcm := HEB.out.most;have hkk : k = 0 ∨ k = 1 ∨ k = 2 := by omega
  clear hk0 hk1;rcases hkk with rfl | rfl | rfl
  focus
    go_wp2_with fail
    refine (modS ct 5 _ (by decide) (by decide)).mono ?_;rintro e w7 ⟨b, -, -, rfl, rfl⟩;have hsl := HEB.out.drop HS2.out (k := 0) (by decide)
    by_cases hb : b = 0
    focus
      subst hb;obtain ⟨cur, hbl, hsz, htk⟩ := HEB.out.blk;have e1 := HEB.out.get 0 (by rw [HEB.out.len]; decide) 1 _ rfl;have e2 := HEB.out.get 0 (by rw [HEB.out.len]; decide) 2 _ rfl;have e3 := HEB.out.get 0 (by rw [HEB.out.len]; decide) 3 _ rfl;have e4 := HEB.out.get 0 (by rw [HEB.out.len]; decide) 4 _ rfl;have e5 := HEB.out.get 0 (by rw [HEB.out.len]; decide) 5 _ rfl;have fr := fun i => heap_fz hbl i
      have HBL := Lib.hid hbl;clear hsl hsz htk hbl
      have hsg : S ≠ g := fun e => by
        have h1 := HXc.out.h;rw [e, HBL.out] at h1;injection h1 with h1;injection h1 with h1 h2;exact absurd h2 (by decide)
      have hgs : g ≠ S := Ne.symm hsg;have c1 := heap_cell HXc.out.h 1;have c2 := heap_cell HXc.out.h 2;have c3 := heap_cell HXc.out.h 3
      go_wp2_with fail
      have ho : ∀ h, h ≠ g → (((((w7.setCell ⟨g, 1, none⟩ (.int .i64 1)).setCell ⟨g, 2, none⟩ (.bool false)).setCell ⟨g, 3, none⟩ (.string ⟨#[]⟩)).setCell ⟨g, 4, none⟩ (.slice none 0 0)).setCell ⟨g, 5, none⟩ (.slice none 0 0)).heap[h]? = w7.heap[h]? := fun h hh => ((Below.heap_setCell _ _ _ _ hh).trans ((Below.heap_setCell _ _ _ _ hh).trans ((Below.heap_setCell _ _ _ _ hh).trans ((Below.heap_setCell _ _ _ _ hh).trans (Below.heap_setCell _ _ _ _ hh)))))
      have HEG : Hid (∃ E, EG (((((w7.setCell ⟨g, 1, none⟩ (.int .i64 1)).setCell ⟨g, 2, none⟩ (.bool false)).setCell ⟨g, 3, none⟩ (.string ⟨#[]⟩)).setCell ⟨g, 4, none⟩ (.slice none 0 0)).setCell ⟨g, 5, none⟩ (.slice none 0 0)) (.slice (some ⟨g, 0, none⟩) 4 cap) 26 E) := Lib.hid (by
        obtain ⟨E, -, h⟩ := HEB.out.bool (w' := ((((w7.setCell ⟨g, 1, none⟩ (.int .i64 1)).setCell ⟨g, 2, none⟩ (.bool false)).setCell ⟨g, 3, none⟩ (.string ⟨#[]⟩)).setCell ⟨g, 4, none⟩ (.slice none 0 0)).setCell ⟨g, 5, none⟩ (.slice none 0 0)) HS2.out (k := 0) (by decide) (fun cur h => (heap_setCell_same _ g 5 _ _ (.slice none 0 0) (heap_setCell_same _ g 4 _ _ (.slice none 0 0) (heap_setCell_same _ g 3 _ _ (.string ⟨#[]⟩) (heap_setCell_same _ g 2 _ _ (.bool false) (heap_setCell_same _ g 1 _ _ (.int .i64 1) h))))))
        exact ⟨E, h⟩)
      replace HXc := Lib.hid (⟨(ho S hsg).trans HXc.out.h, HXc.out.l.but HBL.out (by decide) ho⟩ : CX (((((w7.setCell ⟨g, 1, none⟩ (.int .i64 1)).setCell ⟨g, 2, none⟩ (.bool false)).setCell ⟨g, 3, none⟩ (.string ⟨#[]⟩)).setCell ⟨g, 4, none⟩ (.slice none 0 0)).setCell ⟨g, 5, none⟩ (.slice none 0 0)) S r s bo m cp tx tm 26 q cs);replace HB := Lib.hid ((Below.setCell (Below.setCell (Below.setCell (Below.setCell (Below.setCell HB.out (p := ⟨g, 1, none⟩) HGB.out (.int .i64 1)) (p := ⟨g, 2, none⟩) HGB.out (.bool false)) (p := ⟨g, 3, none⟩) HGB.out (.string ⟨#[]⟩)) (p := ⟨g, 4, none⟩) HGB.out (.slice none 0 0)) (p := ⟨g, 5, none⟩) HGB.out (.slice none 0 0)));clear e1 e2 e3 e4 e5 fr ho hsg hgs c1 c2 c3 HBL HEB hc4 hcm HGB;generalize ((((w7.setCell ⟨g, 1, none⟩ (.int .i64 1)).setCell ⟨g, 2, none⟩ (.bool false)).setCell ⟨g, 3, none⟩ (.string ⟨#[]⟩)).setCell ⟨g, 4, none⟩ (.slice none 0 0)).setCell ⟨g, 5, none⟩ (.slice none 0 0) = w8 at *;generalize Value.slice (some ⟨g, 0, none⟩) 4 cap = ve at *
    rotate_left
    focus
      have HEG : Hid (∃ E, EG w7 (.slice (some ⟨g, 0, none⟩) 4 cap) 26 E) := Lib.hid ⟨_, hsl⟩;have hb1 : (b == 0) = false := by rw [beq_eq_false_iff_ne]; exact hb
      have hb2 : decide (b = 0) = false := decide_eq_false hb;have c1 := heap_cell HXc.out.h 1;have c2 := heap_cell HXc.out.h 2;have c3 := heap_cell HXc.out.h 3;clear hsl HEB HGB
      go_wp2_with fail
      clear hc4 hcm hb1 hb2 hb c1 c2 c3;generalize Value.slice (some ⟨g, 0, none⟩) 4 cap = ve at *
  rotate_left 2
  focus
    go_wp2_with fail
    refine (modS ct 5 _ (by decide) (by decide)).mono ?_;rintro e w7 ⟨b, -, -, rfl, rfl⟩;have hsl := HEB.out.drop HS2.out (k := 1) (by decide)
    by_cases hb : b = 0
    focus
      subst hb;obtain ⟨cur, hbl, hsz, htk⟩ := HEB.out.blk;have e1 := HEB.out.get 1 (by rw [HEB.out.len]; decide) 1 _ rfl;have e2 := HEB.out.get 1 (by rw [HEB.out.len]; decide) 2 _ rfl;have e3 := HEB.out.get 1 (by rw [HEB.out.len]; decide) 3 _ rfl;have e4 := HEB.out.get 1 (by rw [HEB.out.len]; decide) 4 _ rfl;have e5 := HEB.out.get 1 (by rw [HEB.out.len]; decide) 5 _ rfl;have fr := fun i => heap_fz hbl i
      have HBL := Lib.hid hbl;clear hsl hsz htk hbl
      have hsg : S ≠ g := fun e => by
        have h1 := HXc.out.h;rw [e, HBL.out] at h1;injection h1 with h1;injection h1 with h1 h2;exact absurd h2 (by decide)
      have hgs : g ≠ S := Ne.symm hsg;have c1 := heap_cell HXc.out.h 1;have c2 := heap_cell HXc.out.h 2;have c3 := heap_cell HXc.out.h 3
      go_wp2_with fail
      have ho : ∀ h, h ≠ g → (((((w7.setCell ⟨g, 7, none⟩ (.int .i64 1)).setCell ⟨g, 8, none⟩ (.bool false)).setCell ⟨g, 9, none⟩ (.string ⟨#[]⟩)).setCell ⟨g, 10, none⟩ (.slice none 0 0)).setCell ⟨g, 11, none⟩ (.slice none 0 0)).heap[h]? = w7.heap[h]? := fun h hh => ((Below.heap_setCell _ _ _ _ hh).trans ((Below.heap_setCell _ _ _ _ hh).trans ((Below.heap_setCell _ _ _ _ hh).trans ((Below.heap_setCell _ _ _ _ hh).trans (Below.heap_setCell _ _ _ _ hh)))))
      have HEG : Hid (∃ E, EG (((((w7.setCell ⟨g, 7, none⟩ (.int .i64 1)).setCell ⟨g, 8, none⟩ (.bool false)).setCell ⟨g, 9, none⟩ (.string ⟨#[]⟩)).setCell ⟨g, 10, none⟩ (.slice none 0 0)).setCell ⟨g, 11, none⟩ (.slice none 0 0)) (.slice (some ⟨g, 6, none⟩) 3 (cap - 1)) 26 E) := Lib.hid (by
        obtain ⟨E, -, h⟩ := HEB.out.bool (w' := ((((w7.setCell ⟨g, 7, none⟩ (.int .i64 1)).setCell ⟨g, 8, none⟩ (.bool false)).setCell ⟨g, 9, none⟩ (.string ⟨#[]⟩)).setCell ⟨g, 10, none⟩ (.slice none 0 0)).setCell ⟨g, 11, none⟩ (.slice none 0 0)) HS2.out (k := 1) (by decide) (fun cur h => (heap_setCell_same _ g 11 _ _ (.slice none 0 0) (heap_setCell_same _ g 10 _ _ (.slice none 0 0) (heap_setCell_same _ g 9 _ _ (.string ⟨#[]⟩) (heap_setCell_same _ g 8 _ _ (.bool false) (heap_setCell_same _ g 7 _ _ (.int .i64 1) h))))))
        exact ⟨E, h⟩)
      replace HXc := Lib.hid (⟨(ho S hsg).trans HXc.out.h, HXc.out.l.but HBL.out (by decide) ho⟩ : CX (((((w7.setCell ⟨g, 7, none⟩ (.int .i64 1)).setCell ⟨g, 8, none⟩ (.bool false)).setCell ⟨g, 9, none⟩ (.string ⟨#[]⟩)).setCell ⟨g, 10, none⟩ (.slice none 0 0)).setCell ⟨g, 11, none⟩ (.slice none 0 0)) S r s bo m cp tx tm 26 q cs);replace HB := Lib.hid ((Below.setCell (Below.setCell (Below.setCell (Below.setCell (Below.setCell HB.out (p := ⟨g, 7, none⟩) HGB.out (.int .i64 1)) (p := ⟨g, 8, none⟩) HGB.out (.bool false)) (p := ⟨g, 9, none⟩) HGB.out (.string ⟨#[]⟩)) (p := ⟨g, 10, none⟩) HGB.out (.slice none 0 0)) (p := ⟨g, 11, none⟩) HGB.out (.slice none 0 0)));clear e1 e2 e3 e4 e5 fr ho hsg hgs c1 c2 c3 HBL HEB hc4 hcm HGB;generalize ((((w7.setCell ⟨g, 7, none⟩ (.int .i64 1)).setCell ⟨g, 8, none⟩ (.bool false)).setCell ⟨g, 9, none⟩ (.string ⟨#[]⟩)).setCell ⟨g, 10, none⟩ (.slice none 0 0)).setCell ⟨g, 11, none⟩ (.slice none 0 0) = w8 at *;generalize Value.slice (some ⟨g, 6, none⟩) 3 (cap - 1) = ve at *
    rotate_left
    focus
      have HEG : Hid (∃ E, EG w7 (.slice (some ⟨g, 6, none⟩) 3 (cap - 1)) 26 E) := Lib.hid ⟨_, hsl⟩;have hb1 : (b == 0) = false := by rw [beq_eq_false_iff_ne]; exact hb
      have hb2 : decide (b = 0) = false := decide_eq_false hb;have c1 := heap_cell HXc.out.h 1;have c2 := heap_cell HXc.out.h 2;have c3 := heap_cell HXc.out.h 3;clear hsl HEB HGB
      go_wp2_with fail
      clear hc4 hcm hb1 hb2 hb c1 c2 c3;generalize Value.slice (some ⟨g, 6, none⟩) 3 (cap - 1) = ve at *
  rotate_left 2
  focus
    go_wp2_with fail
    refine (modS ct 5 _ (by decide) (by decide)).mono ?_;rintro e w7 ⟨b, -, -, rfl, rfl⟩;have hsl := HEB.out.drop HS2.out (k := 2) (by decide)
    by_cases hb : b = 0
    focus
      subst hb;obtain ⟨cur, hbl, hsz, htk⟩ := HEB.out.blk;have e1 := HEB.out.get 2 (by rw [HEB.out.len]; decide) 1 _ rfl;have e2 := HEB.out.get 2 (by rw [HEB.out.len]; decide) 2 _ rfl;have e3 := HEB.out.get 2 (by rw [HEB.out.len]; decide) 3 _ rfl;have e4 := HEB.out.get 2 (by rw [HEB.out.len]; decide) 4 _ rfl;have e5 := HEB.out.get 2 (by rw [HEB.out.len]; decide) 5 _ rfl;have fr := fun i => heap_fz hbl i
      have HBL := Lib.hid hbl;clear hsl hsz htk hbl
      have hsg : S ≠ g := fun e => by
        have h1 := HXc.out.h;rw [e, HBL.out] at h1;injection h1 with h1;injection h1 with h1 h2;exact absurd h2 (by decide)
      have hgs : g ≠ S := Ne.symm hsg;have c1 := heap_cell HXc.out.h 1;have c2 := heap_cell HXc.out.h 2;have c3 := heap_cell HXc.out.h 3
      go_wp2_with fail
      have ho : ∀ h, h ≠ g → (((((w7.setCell ⟨g, 13, none⟩ (.int .i64 1)).setCell ⟨g, 14, none⟩ (.bool false)).setCell ⟨g, 15, none⟩ (.string ⟨#[]⟩)).setCell ⟨g, 16, none⟩ (.slice none 0 0)).setCell ⟨g, 17, none⟩ (.slice none 0 0)).heap[h]? = w7.heap[h]? := fun h hh => ((Below.heap_setCell _ _ _ _ hh).trans ((Below.heap_setCell _ _ _ _ hh).trans ((Below.heap_setCell _ _ _ _ hh).trans ((Below.heap_setCell _ _ _ _ hh).trans (Below.heap_setCell _ _ _ _ hh)))))
      have HEG : Hid (∃ E, EG (((((w7.setCell ⟨g, 13, none⟩ (.int .i64 1)).setCell ⟨g, 14, none⟩ (.bool false)).setCell ⟨g, 15, none⟩ (.string ⟨#[]⟩)).setCell ⟨g, 16, none⟩ (.slice none 0 0)).setCell ⟨g, 17, none⟩ (.slice none 0 0)) (.slice (some ⟨g, 12, none⟩) 2 (cap - 2)) 26 E) := Lib.hid (by
        obtain ⟨E, -, h⟩ := HEB.out.bool (w' := ((((w7.setCell ⟨g, 13, none⟩ (.int .i64 1)).setCell ⟨g, 14, none⟩ (.bool false)).setCell ⟨g, 15, none⟩ (.string ⟨#[]⟩)).setCell ⟨g, 16, none⟩ (.slice none 0 0)).setCell ⟨g, 17, none⟩ (.slice none 0 0)) HS2.out (k := 2) (by decide) (fun cur h => (heap_setCell_same _ g 17 _ _ (.slice none 0 0) (heap_setCell_same _ g 16 _ _ (.slice none 0 0) (heap_setCell_same _ g 15 _ _ (.string ⟨#[]⟩) (heap_setCell_same _ g 14 _ _ (.bool false) (heap_setCell_same _ g 13 _ _ (.int .i64 1) h))))))
        exact ⟨E, h⟩)
      replace HXc := Lib.hid (⟨(ho S hsg).trans HXc.out.h, HXc.out.l.but HBL.out (by decide) ho⟩ : CX (((((w7.setCell ⟨g, 13, none⟩ (.int .i64 1)).setCell ⟨g, 14, none⟩ (.bool false)).setCell ⟨g, 15, none⟩ (.string ⟨#[]⟩)).setCell ⟨g, 16, none⟩ (.slice none 0 0)).setCell ⟨g, 17, none⟩ (.slice none 0 0)) S r s bo m cp tx tm 26 q cs);replace HB := Lib.hid ((Below.setCell (Below.setCell (Below.setCell (Below.setCell (Below.setCell HB.out (p := ⟨g, 13, none⟩) HGB.out (.int .i64 1)) (p := ⟨g, 14, none⟩) HGB.out (.bool false)) (p := ⟨g, 15, none⟩) HGB.out (.string ⟨#[]⟩)) (p := ⟨g, 16, none⟩) HGB.out (.slice none 0 0)) (p := ⟨g, 17, none⟩) HGB.out (.slice none 0 0)));clear e1 e2 e3 e4 e5 fr ho hsg hgs c1 c2 c3 HBL HEB hc4 hcm HGB;generalize ((((w7.setCell ⟨g, 13, none⟩ (.int .i64 1)).setCell ⟨g, 14, none⟩ (.bool false)).setCell ⟨g, 15, none⟩ (.string ⟨#[]⟩)).setCell ⟨g, 16, none⟩ (.slice none 0 0)).setCell ⟨g, 17, none⟩ (.slice none 0 0) = w8 at *;generalize Value.slice (some ⟨g, 12, none⟩) 2 (cap - 2) = ve at *
    rotate_left
    focus
      have HEG : Hid (∃ E, EG w7 (.slice (some ⟨g, 12, none⟩) 2 (cap - 2)) 26 E) := Lib.hid ⟨_, hsl⟩;have hb1 : (b == 0) = false := by rw [beq_eq_false_iff_ne]; exact hb
      have hb2 : decide (b = 0) = false := decide_eq_false hb;have c1 := heap_cell HXc.out.h 1;have c2 := heap_cell HXc.out.h 2;have c3 := heap_cell HXc.out.h 3;clear hsl HEB HGB
      go_wp2_with fail
      clear hc4 hcm hb1 hb2 hb c1 c2 c3;generalize Value.slice (some ⟨g, 12, none⟩) 2 (cap - 2) = ve at *
  rotate_left 2
  all_goals
    obtain ⟨E, heg⟩ := HEG.out;have HEG2 := Lib.hid heg;clear heg HEG;obtain ⟨M, hM, hk⟩ := con_mod HOK.out;subst hM;have h1 : ∀ W, Below w.heap.size w W → LV W (.agg #[.int .i64 s, .slice bo m cp, .string tx]) s 26 q cs → EG W ve 26 E → Calls Tryz.prog 40 #[.agg #[.int .i64 s, .slice bo m cp, .string tx], ve] W fun e w' => e = .returned (.tuple #[.string (evT (evG s (lkE E) q cs)), .int .i64 (evG s (lkE E) q cs).1]) ∧ Below W.heap.size W w' := fun W hW hl he => linEvalG hl he hk.sort (by decide) (by decide) (HE.out.far hW)
    have h2 : ∀ W, LV W (.agg #[.int .i64 s, .slice bo m cp, .string tx]) s 26 q cs → EG W ve 26 E → Calls Tryz.prog 43 #[.agg #[.int .i64 s, .slice bo m cp, .string tx], ve] W fun e w' => e = .returned (.tuple #[.string (evT (evG s (lkE E) q cs)), .int .i64 (evG s (lkE E) q cs).1]) ∧ Below W.heap.size W w' := fun W hl he => refEvalG hl he hk.sort (by decide) (by decide)
    have h3 : ∀ W, Below w.heap.size w W → LV W (.agg #[.int .i64 s, .slice bo m cp, .string tx]) s 26 q cs → EG W ve 26 E → Calls Tryz.prog 44 #[.agg #[.int .i64 r, .int .i64 s, .slice bo m cp, .string tx, .string (TXo M)], ve] W fun e w' => e = .returned (.tuple #[.bool (holdE r M (evG s (lkE E) q cs)), .int .i64 (evG s (lkE E) q cs).1]) ∧ Below W.heap.size W w' := fun W hW hl he => holdsG hl hk he (by decide) (by decide) (HE.out.far hW)
    have h4 : ∀ W, LV W (.agg #[.int .i64 s, .slice bo m cp, .string tx]) s 26 q cs → EG W ve 26 E → Calls Tryz.prog 45 #[.agg #[.int .i64 r, .int .i64 s, .slice bo m cp, .string tx, .string (TXo M)], ve] W fun e w' => e = .returned (.tuple #[.bool (holdE r M (evG s (lkE E) q cs)), .int .i64 (evG s (lkE E) q cs).1]) ∧ Below W.heap.size W w' := fun W hl he => refHoldsG hl hk he (by decide) (by decide)
    obtain ⟨T, hT⟩ : ∃ t, evT (evG s (lkE E) q cs) = t := ⟨_, rfl⟩
    obtain ⟨ec, hec⟩ : ∃ t, (evG s (lkE E) q cs).1 = t := ⟨_, rfl⟩
    obtain ⟨bb, hbb⟩ : ∃ t, holdE r M (evG s (lkE E) q cs) = t := ⟨_, rfl⟩
    rw [hec] at h1 h2 h3 h4;rw [hT] at h1 h2;rw [hbb] at h3 h4;have H1 := Lib.hid h1;have H2 := Lib.hid h2;have H3 := Lib.hid h3;have H4 := Lib.hid h4;clear h1 h2 h3 h4 hT hec hbb hk HOK;generalize TXo M = tm at *;refine (H1.out _ HB.out HXc.out.l HEG2.out).mono ?_;rintro e w9 ⟨rfl, hb1⟩;replace HXc := Lib.hid (HXc.out.far hb1);replace HEG2 := Lib.hid (HEG2.out.far hb1);replace HB := Lib.hid (HB.out.trans (hb1.mono HB.out.size));clear hb1 H1;have c0 := heap_cell HXc.out.h 0;have c1 := heap_cell HXc.out.h 1;have c2 := heap_cell HXc.out.h 2;have c3 := heap_cell HXc.out.h 3;have c4 := heap_cell HXc.out.h 4
    go_wp2_with fail
    refine (H2.out _ HXc.out.l HEG2.out).mono ?_;rintro e w10 ⟨rfl, hb1⟩;replace HXc := Lib.hid (HXc.out.far hb1);replace HEG2 := Lib.hid (HEG2.out.far hb1);replace HB := Lib.hid (HB.out.trans (hb1.mono HB.out.size));clear hb1 c0 c1 c2 c3 c4 H2;have c0 := heap_cell HXc.out.h 0;have c1 := heap_cell HXc.out.h 1;have c2 := heap_cell HXc.out.h 2;have c3 := heap_cell HXc.out.h 3;have c4 := heap_cell HXc.out.h 4
    go_wp2_with fail
    refine (H3.out _ HB.out HXc.out.l HEG2.out).mono ?_;rintro e w11 ⟨rfl, hb1⟩;replace HXc := Lib.hid (HXc.out.far hb1);replace HEG2 := Lib.hid (HEG2.out.far hb1);replace HB := Lib.hid (HB.out.trans (hb1.mono HB.out.size));clear hb1 c0 c1 c2 c3 c4 H3;have c0 := heap_cell HXc.out.h 0;have c1 := heap_cell HXc.out.h 1;have c2 := heap_cell HXc.out.h 2;have c3 := heap_cell HXc.out.h 3;have c4 := heap_cell HXc.out.h 4
    go_wp2_with fail
    refine (H4.out _ HXc.out.l HEG2.out).mono ?_;rintro e w12 ⟨rfl, hb1⟩;replace HB := Lib.hid (HB.out.trans (hb1.mono HB.out.size));clear hb1 c0 c1 c2 c3 c4 H4 HXc HEG2;have htt : (T.toList == T.toList) = true := beq_self_eq_true _;have hee : (ec == ec) = true := beq_self_eq_true _;have hbe : (bb == bb) = true := beq_self_eq_true _
    go_wp2_with fail
    refine (awakeL _ (HE.out.far HB.out)).mono ?_;rintro e w13 ⟨rfl, hb1⟩;replace HB := Lib.hid (HB.out.trans (hb1.mono HB.out.size));clear hb1
    go_wp2
    go_ret
    exact ⟨rfl, HB.out⟩
end
end Go.Proofs.YteoklapcifonaaaGreatDoor

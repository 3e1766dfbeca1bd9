/- Values of sums, multiples and replacements: plain facts. -/
import Derived.Test.YteoklapcifonaaaGreatDoorWGF
import Derived.Test.YteoklapcifonaaaGreatDoorWQA
import Derived.Test.YteoklapcifonaaaGreatDoorWMJ
namespace Go.Proofs.YteoklapcifonaaaGreatDoor
open Go.RowKit Nmx

/-- a sum over names -/
def sumN (h : List UInt8 → Rat) : List (List UInt8) → Rat
  | [] => 0
  | n :: N => h n + sumN h N
theorem sumN_upd {h g : List UInt8 → Rat} {m : List UInt8} {a : Rat} (h0 : h m = 0) : ∀ N : List (List UInt8), N.Nodup → m ∈ N → sumN (fun n => (if m = n then a else h n) * g n) N = a * g m + sumN (fun n => h n * g n) N
  | [], _, hm => (List.not_mem_nil hm).elim
  | n :: N, hn, hm => by
    rw [List.nodup_cons] at hn;show (if m = n then a else h n) * g n + sumN _ N = a * g m + (h n * g n + sumN _ N)
    by_cases e : m = n
    · subst e
      have h1 : ∀ M : List (List UInt8), m ∉ M → sumN (fun n => (if m = n then a else h n) * g n) M = sumN (fun n => h n * g n) M := by
        intro M
        induction M with
        | nil => exact fun _ => rfl
        | cons x M ih =>
          intro hx;show (if m = x then a else h x) * g x + sumN _ M = h x * g x + sumN _ M;rw [if_neg (fun e => hx (by rw [e]; simp)), ih (fun h => hx (by simp [h]))]
      rw [if_pos rfl, h1 N hn.1, h0, Rat.zero_mul, Rat.zero_add]
    · rw [if_neg e, sumN_upd h0 N hn.2 ((List.mem_cons.1 hm).resolve_left e)]
      grind
theorem evS_sum {g : List UInt8 → Rat} {N : List (List UInt8)} (hN : N.Nodup) : ∀ cs : List (List UInt8 × Rat), Can ltB cs → (∀ x ∈ cs, x.1 ∈ N) → evS 0 cs g = sumN (fun n => cof cs n * g n) N
  | [], _, _ => by
    have : ∀ M : List (List UInt8), sumN (fun n => cof [] n * g n) M = 0 := by
      intro M
      induction M with
      | nil => rfl
      | cons x M ih =>
        show cof [] x * g x + sumN _ M = 0;rw [ih, show cof ([] : List (List UInt8 × Rat)) x = 0 from rfl, Rat.zero_mul, Rat.zero_add]
    rw [this]; rfl
  | x :: l, hc, hx => by
    have h0 : cof l x.1 = 0 := by
      refine Classical.byContradiction fun h => ?_
      exact h (cof_none (l := l) fun y hy e => by
        have := hc.2.1 y hy;rw [e] at this
        exact ord_ltB.irr _ this)
    rw [evS_cons, evS_sum hN l hc.2.2 fun y hy => hx y (by simp [hy])];have := @sumN_upd (cof l) g x.1 x.2 h0 N hN (hx x (by simp));rw [← this];rfl
theorem evS_four {p : Rat} {cs : List (List UInt8 × Rat)} (h : Can ltB cs) (hn : ∀ x ∈ cs, x.1 ∈ nm4) (g : List UInt8 → Rat) : evS p cs g = p + (cof cs [117] * g [117] + (cof cs [118] * g [118] + (cof cs [120] * g [120] + (cof cs [121] * g [121] + 0)))) := by
  rw [evS_add, evS_sum (N := nm4) (by decide) cs h hn];rfl
theorem ev_sum {p1 p2 : Rat} {c1 c2 rs : List (List UInt8 × Rat)} (h1 : Can ltB c1) (n1 : ∀ x ∈ c1, x.1 ∈ nm4) (h2 : Can ltB c2) (n2 : ∀ x ∈ c2, x.1 ∈ nm4) (h3 : Can ltB rs) (n3 : ∀ x ∈ rs, x.1 ∈ nm4) (hf : ∀ n, cof rs n = cof c1 n + cof c2 n) (g : List UInt8 → Rat) : evS (p1 + p2) rs g = evS p1 c1 g + evS p2 c2 g := by
  rw [evS_four h1 n1, evS_four h2 n2, evS_four h3 n3, hf, hf, hf, hf]
  grind
theorem ev_mul {k p : Rat} {cs rs : List (List UInt8 × Rat)} (h1 : Can ltB cs) (n1 : ∀ x ∈ cs, x.1 ∈ nm4) (h3 : Can ltB rs) (n3 : ∀ x ∈ rs, x.1 ∈ nm4) (hf : ∀ n, cof rs n = k * cof cs n) (g : List UInt8 → Rat) : evS (k * p) rs g = k * evS p cs g := by
  rw [evS_four h1 n1, evS_four h3 n3, hf, hf, hf, hf]
  grind
theorem ev_rep {p1 p2 : Rat} {c1 c2 rs : List (List UInt8 × Rat)} (h1 : Can ltB c1) (n1 : ∀ x ∈ c1, x.1 ∈ nm4) (h2 : Can ltB c2) (n2 : ∀ x ∈ c2, x.1 ∈ nm4) (h3 : Can ltB rs) (n3 : ∀ x ∈ rs, x.1 ∈ nm4) (hf : ∀ n, cof rs n = (if n = [117] then 0 else cof c1 n) + cof c1 [117] * cof c2 n) (g : List UInt8 → Rat) :
    evS (p1 + cof c1 [117] * p2) rs g = evS p1 c1 (fun n => if n = [117] then evS p2 c2 g else g n) := by
  rw [evS_four h1 n1, evS_four h2 n2, evS_four h3 n3, hf, hf, hf, hf, if_pos rfl, if_neg (by decide), if_neg (by decide), if_neg (by decide), if_pos rfl, if_neg (by decide), if_neg (by decide), if_neg (by decide)]
  grind
/-- where every name has a number of the sort -/
theorem evG_ok {s : Int} {f : List UInt8 → Option (Int × Rat)} {g : List UInt8 → Rat} : ∀ (cs : List (List UInt8 × Rat)) (p : Rat), (∀ x ∈ cs, f x.1 = some (s, g x.1)) → evG s f p cs = (0, evS p cs g)
  | [], _, _ => rfl
  | x :: cs, p, h => by
    unfold evG;rw [h x (by simp)];show (if s = s then evG s f (p + x.2 * g x.1) cs else (3, 0)) = _;rw [if_pos rfl, evG_ok cs _ fun y hy => h y (by simp [hy])];rfl
/-- an environment of numbers of one sort -/
def toG (s : Int) (es : List (List UInt8 × Rat)) : List (List UInt8 × Int × Rat) := es.map fun x => (x.1, s, x.2)
theorem lkE_toG {s : Int} {n : List UInt8} : ∀ {es : List (List UInt8 × Rat)}, n ∈ es.map (·.1) → lkE (toG s es) n = some (s, cof es n)
  | [], h => (List.not_mem_nil h).elim
  | x :: es, h => by
    show (if x.1 = n then some (s, x.2) else lkE (toG s es) n) = _;obtain ⟨m, q⟩ := x;rw [cof_cons]
    by_cases e : m = n
    · rw [if_pos e, if_pos e]
    · rw [if_neg e, if_neg e];refine lkE_toG ?_;rw [List.map_cons] at h;exact (List.mem_cons.1 h).resolve_left fun h => e h.symm
end Go.Proofs.YteoklapcifonaaaGreatDoor
/- LinearEval's walk. -/
namespace Go.Proofs.YteoklapcifonaaaGreatDoor
open Go.RowKit Nmx

theorem CX.grown {w w' : World} {S : Nat} {r s : Int} {ao : Option Addr} {n cap : Nat} {tx tm : ByteArray} {d : Nat} {c : Rat} {cs : List (List UInt8 × Rat)} {C : Nat} {bo : Option Addr} {m cp : Nat} (h : CX w S r s ao n cap tx tm d c cs) (hc : Ch C bo m cp w) (hS : S < C) (hg : w.grownBy w' (some C)) : CX w' S r s ao n cap tx tm d c cs :=
  ⟨(hg.block _ (lt_of_heap h.h) (fun e => by have := Option.some.inj e; omega)).trans h.h, h.l.grown hc hg⟩
section
set_option maxRecDepth 100000
set_option maxHeartbeats 8000000
theorem linearEnv_row (C : Nat) (ao : Option Addr) (n cap : Nat) (s : Int) (w : World) (h : Ch C ao n cap w) : Calls Tryz.prog 34 #[.pointer (some ⟨C, 0, none⟩), .int .i64 s] w fun e w' => ∃ es v, e = .returned v ∧ EV w' v s es ∧ w'.ownsRow (w.heap.size + 1) 65 6 v es.length (flatB s es) ∧ Ch C ao n cap w' ∧ w.grownBy w' (some C) := by
  have hal := alloc_far w (.cells #[.string ⟨#[117]⟩, .string ⟨#[118]⟩, .string ⟨#[120]⟩, .string ⟨#[121]⟩] 9);have HS := Lib.hid (⟨h.call hal, heap_alloc_new w _, World.ownsRow_nil _ _ _ _, h.lt, Nat.le_refl _, grown_more (r := some C) (grown_below hal)⟩ : GE w (w.alloc (.cells #[.string ⟨#[117]⟩, .string ⟨#[118]⟩, .string ⟨#[120]⟩, .string ⟨#[121]⟩] 9)) C ao n cap s w.heap.size (.slice none 0 0) []);clear h hal
  go_enter Tryz.func34, Tryz.ntmps34
  go_wp2_with fail
  generalize w.alloc (.cells #[.string ⟨#[117]⟩, .string ⟨#[118]⟩, .string ⟨#[120]⟩, .string ⟨#[121]⟩] 9) = w1 at *;obtain ⟨M, hM⟩ : ∃ M, w.heap.size = M := ⟨_, rfl⟩
  have HSM : Hid (GE w w1 C ao n cap s M (.slice none 0 0) []) := Lib.hid (by rw [← hM]; exact HS.out);have HMM := Lib.hid hM;rw [hM];clear hM HS
  go_loopg [5, 7] 4 (fun gh v5 v7 wr => ∃ (i : Nat) (v : Value) (r : List (List UInt8 × Rat)), gh = 4 - i ∧ i ≤ 4 ∧ v7 = .int .i64 i ∧ v5 = v ∧ GE w wr C ao n cap s M v r ∧ r.map (·.1) = nm4.take i ∧ ∀ x ∈ r, NumOk s x.2)
  case atStart => exact ⟨0, _, [], rfl, by omega, rfl, rfl, HSM.out, rfl, fun x hx => (List.not_mem_nil hx).elim⟩
  case round =>
    obtain ⟨i, v, r, rfl, hi, rfl, hv5, hge, hnm, hok⟩ := hrel;have hv := hv5.symm;subst hv;clear hv5;have HG := Lib.hid hge;have HNM := Lib.hid hnm;have HOK := Lib.hid hok;clear hge hnm hok HSM;have hi0 : (0 : Int) ≤ (i : Int) := by omega
    by_cases hlt : i < 4
    · have hlt' : (i : Int) < 4 := by omega
      obtain ⟨nm, hnm, htk⟩ := nm4_get i hlt;have HN := Lib.hid hnm;have HTK := Lib.hid htk;obtain ⟨tn, htn⟩ : ∃ tn : ByteArray, (⟨nm.toArray⟩ : ByteArray) = tn := ⟨_, rfl⟩
      have HTN := Lib.hid htn
      have hrl : r.length ≤ 4 := by
        have := congrArg List.length HNM.out;rw [List.length_map, List.length_take] at this
        omega
      have HRL := Lib.hid hrl;clear hnm htk htn hrl;obtain ⟨i0, hi0', hz0, hz1, hz2⟩ := info_parts infoBind
      go_wp2_with fail
      refine add_regionR (chOk C ao n cap) [[], [], [], [1, 2], [1, 2, 3], [], [], [], [6, 7], [5, 6, 7, 8], [1, 2, 3, 4, 5, 6, 7, 8, 9], [1, 2, 3, 4, 5, 6, 7, 8, 9, 10], [0, 1, 2, 3, 4, 5, 6, 7, 8, 9, 10, 11], [0, 1, 2, 3, 4, 5, 6, 7, 8, 9, 10, 11, 12]] (fun W => GE w W C ao n cap s M v r) (fun _ => True) ?_
      iterate 8
        apply a_con
        · intro x; go_simp; done
        · intro x W R hW hF hR;have e2 := (heap_cell hW.hm i).trans HN.out;rw [HTN.out] at e2;clear hF;unfold addAt
          go_simp
          simp only [addUpon];exact hR _ ⟨grown_refl _ _, id⟩
        simp only [Act.put, List.setIfInBounds_toArray, List.set_cons_zero, List.set_cons_succ]
      refine a_opqF (fun u => ∃ q, NumOk s q ∧ u = .string (TX q)) (fun _ _ => True) (fun _ _ _ _ _ => trivial) ?_ ?_ ?_
      · intro x; go_simp; done
      · intro x W R hW hF hR;clear hF;unfold addAt
        go_simp
        simp only [addUpon];refine (num_any C ao n cap s W hW.ch).mono ?_;rintro e w' ⟨q, hq, rfl, hc, hg⟩;exact ⟨_, rfl, hR _ _ ⟨q, hq, rfl⟩ trivial ⟨hg, fun _ => hc⟩⟩
      simp only [Act.put, List.setIfInBounds_toArray, List.set_cons_zero, List.set_cons_succ, List.length_cons, List.length_nil, Nat.zero_add, Nat.reduceAdd];refine a_opqF (fun u => ∃ q, NumOk s q ∧ u = .agg #[.int .i64 s, .bool false, .string (TX q), .slice none 0 0, .slice none 0 0]) (fun _ _ => True) (fun _ _ _ _ _ => trivial) ?_ ?_ ?_
      · intro x; go_simp; done
      · intro x W R hW hF hR;have hs := hF.1.1 rfl;simp only [AK.free] at hs;obtain ⟨q, hq, hx⟩ := hs;simp only [hx];clear hF;unfold addAt
        go_simp
        simp only [addUpon];exact hR _ _ ⟨q, hq, rfl⟩ trivial ⟨grown_refl _ _, id⟩
      simp only [Act.put, List.setIfInBounds_toArray, List.set_cons_zero, List.set_cons_succ, List.length_cons, List.length_nil, Nat.zero_add, Nat.reduceAdd];refine a_opqF (fun u => ∃ q, NumOk s q ∧ u = .agg #[.string tn, .int .i64 s, .bool false, .string (TX q), .slice none 0 0, .slice none 0 0]) (fun _ _ => True) (fun _ _ _ _ _ => trivial) ?_ ?_ ?_
      · intro x; go_simp; done
      · intro x W R hW hF hR;have hs := hF.1.1 rfl;simp only [AK.free] at hs;obtain ⟨q, hq, hx⟩ := hs;simp only [hx];clear hF;unfold addAt
        go_simp
        simp only [addUpon];exact hR _ _ ⟨q, hq, rfl⟩ trivial ⟨grown_refl _ _, id⟩
      simp only [Act.put, List.setIfInBounds_toArray, List.set_cons_zero, List.set_cons_succ, List.length_cons, List.length_nil, Nat.zero_add, Nat.reduceAdd];refine a_opq (fun u W => ∃ q B, NumOk s q ∧ C < B ∧ u = .slice (some ⟨B, 0, none⟩) 1 1 ∧ W.heap[B]? = some (.cells #[.string tn, .int .i64 s, .bool false, .string (TX q), .slice none 0 0, .slice none 0 0] 65 (0, 0))) (fun _ _ _ h hb => let ⟨q, B, h1, h2, h3, h4⟩ := h; ⟨q, B, h1, h2, h3, (hb.1.block _ (lt_of_heap h4) (fun e => by have := Option.some.inj e; omega)).trans h4⟩) ?_ ?_ ?_
      · intro x; go_simp; done
      · intro x W R hW hF hR;have hs := hF.1.1 rfl;simp only [AK.free] at hs;obtain ⟨q, hq, hx⟩ := hs;simp only [hx];clear hF;unfold addAt
        go_simp
        simp only [addUpon];have hal := alloc_far W (.cells #[.string tn, .int .i64 s, .bool false, .string (TX q), .slice none 0 0, .slice none 0 0] 65);exact hR _ _ ⟨q, W.heap.size, hq, hW.ch.lt, rfl, heap_alloc_new _ _⟩ ⟨grown_more (r := some C) (grown_below hal), fun h => h.call hal⟩
      simp only [Act.put, List.setIfInBounds_toArray, List.set_cons_zero, List.set_cons_succ, List.length_cons, List.length_nil, Nat.zero_add, Nat.reduceAdd];refine a_wrt (fun x W => ∃ q, NumOk s q ∧ GE w W C ao n cap s M (x 12) (r ++ [(nm, q)])) (fun _ _ _ h hb => let ⟨q, h1, h2⟩ := h; ⟨q, h1, h2.call hb⟩) (fun x x' w h hT => by have e := h 12 (.inl rfl); rw [e] at hT; exact hT) ?_ ?_ ?_
      · intro x; go_simp; done
      · intro x W R hW hF hD hR;obtain ⟨q, B, hq, -, hx, hB⟩ := hF.1.2 rfl rfl rfl;clear hF;simp only [hx];have hrl := HRL.out;refine addAt_append (.tmp 15) (.tmp 26) 52 rfl (M + 1) 65 i0 _ 6 96 Tryz.underlying52 hi0' hz0 hz1 hz2 rfl (by decide) v r.length (flatB s r) rfl hW.row ⟨B, 0, none⟩ 1 1 [.string tn, .int .i64 s, .bool false, .string (TX q), .slice none 0 0, .slice none 0 0] rfl rfl (World.news_of_block (cs := #[.string tn, .int .i64 s, .bool false, .string (TX q), .slice none 0 0, .slice none 0 0]) hB) (by simp [Value.oneCell']) (by unfold maxLen; omega) (by omega) (lt_of_heap hW.hm) ?_;intro v' w' hrow hg;refine hR _ _ ?_ trivial hg.size;show ∃ q, NumOk s q ∧ GE w w' C ao n cap s M (updX x 12 v' 12) (r ++ [(nm, q)]);rw [updX_self];refine ⟨q, hq, hW.grow (x := (nm, q)) hg ?_⟩;rw [HTN.out];exact hrow
      simp only [Act.put, List.setIfInBounds_toArray, List.set_cons_zero, List.set_cons_succ, List.length_cons, List.length_nil, Nat.zero_add, Nat.reduceAdd];refine a_freX (fun x => x 13 = x 12) (fun x x' hx h => by rw [← hx 13 (.inl rfl), ← hx 12 (.inr (List.contains_iff_mem.1 rfl))]; exact h) ?_ ?_ ?_
      · intro x; go_simp; done
      · intro x W R hW hF hR;clear hF;unfold addAt
        go_simp
        simp only [addUpon];refine hR _ _ ?_ ⟨grown_refl _ _, id⟩;show updX x 13 _ 13 = updX x 13 _ 12;rw [updX_self, updX_ne (i := 13) (j := 12) _ _ (by decide)]
      simp only [Act.put, List.setIfInBounds_toArray, List.set_cons_zero, List.set_cons_succ, List.length_cons, List.length_nil, Nat.zero_add, Nat.reduceAdd];refine a_nil (by kernel_rfl) (by kernel_rfl) (by kernel_rfl) (fun _ _ h hb => h.call hb) (fun _ _ _ _ => trivial) (fun _ _ => trivial) (HG.out.call (w' := wr.drew) ⟨grown_more (r := some C) (grown_below (Below.refl _ _).drew), fun h => h.call (Below.refl _ _).drew⟩) ?_;intro x W hE hW hF hD;clear hD;obtain ⟨q, hq, hge⟩ := hF.2.1.2 rfl;have hx := hF.1.1;simp only [AK.free] at hx;simp only [hx];have HL := Lib.hid hge;have HQ := Lib.hid hq;clear hF hx hge hq hW hE
      go_wp2_with fail
      go_roundg (4 - (i + 1))
      case rel =>
        refine ⟨i + 1, _, r ++ [(nm, q)], rfl, by omega, by go_num, rfl, HL.out, ?_, fun x hx => ?_⟩
        · rw [HTK.out, List.map_append, HNM.out]; rfl
        · rcases List.mem_append.1 hx with h1 | h1
          · exact HOK.out x h1
          · rw [List.mem_singleton.1 h1]; exact HQ.out
      case measure => omega
    · have hlt' : ¬ ((i : Int) < 4) := by omega
      have h4 : i = 4 := by omega
      subst h4;have hrw := HG.out.row;rw [← HMM.out] at hrw;have HRW := Lib.hid hrw;obtain ⟨ao', g, cp, rfl, hb⟩ := bsl_of_row HG.out.row;clear hrw;have HBS := Lib.hid hb;clear hb
      go_wp2
      go_ret
      exact ⟨r, _, rfl, ⟨ao', g, cp, rfl, HBS.out, HNM.out, HOK.out⟩, HRW.out, HG.out.ch, HG.out.gr⟩
/-- the environment from an index on, in its block -/
structure EB2 (w : World) (g cap : Nat) (s : Int) (es : List (List UInt8 × Rat)) : Prop where
  blk : ∃ cur, w.heap[g]? = some (.cells cur 65 (0, 0)) ∧ cur.size = cap * 6 ∧ cur.toList.take 24 = flatB s es
  len : es.length = 4
  c4 : 4 ≤ cap
  most : cap ≤ 9223372036854775807
  ok : ∀ x ∈ es, NumOk s x.2
theorem eb2_of {w : World} {v : Value} {base : Nat} {s : Int} {es : List (List UInt8 × Rat)} (he : EV w v s es) (h : w.ownsRow base 65 6 v es.length (flatB s es)) : ∃ g cap, v = .slice (some ⟨g, 0, none⟩) 4 cap ∧ base ≤ g ∧ EB2 w g cap s es := by
  obtain ⟨-, -, -, -, -, hg⟩ := he
  have h4 : es.length = 4 := by
    have := congrArg List.length hg.nm;rwa [List.length_map] at this
  rw [h4] at h;rcases h.2 with ⟨-, hn⟩ | ⟨g, cap, cur, hv, hb, hbl, hn, hc, hs, htake⟩
  · cases hn
  · exact ⟨g, cap, hv, hb, ⟨cur, hbl, hs, htake⟩, h4, hn, hc, hg.ok⟩
theorem take_get {α : Type} {l t : List α} {n i : Nat} {v : α} (h : l.take n = t) (hv : t[i]? = some v) : l[i]? = some v := by
  rw [← h, List.getElem?_take] at hv
  split at hv
  · exact hv
  · cases hv
theorem toG_drop_get {s : Int} {es : List (List UInt8 × Rat)} {k i : Nat} (h : i < ((toG s es).drop k).length) (hk : k + i < es.length) : ((toG s es).drop k)[i] = (es[k + i].1, s, es[k + i].2) := by
  rw [List.getElem_drop];unfold toG;rw [List.getElem_map]
theorem toG_drop_len {s : Int} {es : List (List UInt8 × Rat)} {k : Nat} : ((toG s es).drop k).length = es.length - k := by
  rw [List.length_drop]; unfold toG; rw [List.length_map]
theorem toG_ok {s : Int} {es : List (List UInt8 × Rat)} (hs : s = 2 ∨ s = 3) (h : ∀ x ∈ es, NumOk s x.2) : ∀ x ∈ toG s es, EntOk 26 x.2 := by
  intro x hx;obtain ⟨y, hy, rfl⟩ := List.mem_map.1 hx;exact .inr ⟨hs, h y hy⟩
theorem EB2.get {w : World} {g cap : Nat} {s : Int} {es : List (List UInt8 × Rat)} (h : EB2 w g cap s es) (i : Nat) (hi : i < es.length) (c : Nat) (v : Value) (hv : (#[.string ⟨es[i].1.toArray⟩, .int .i64 s, .bool false, .string (TX es[i].2), .slice none 0 0, .slice none 0 0] : Array Value)[c]? = some v) : w.cell? ⟨g, i * 6 + c, none⟩ = some v := by
  obtain ⟨cur, hb, -, ht⟩ := h.blk;rw [heap_cell hb];have := take_get ht (flatB_get s es i hi c v hv)
  simpa using this
/-- the environment without its first bindings -/
theorem EB2.drop {w : World} {g cap : Nat} {s : Int} {es : List (List UInt8 × Rat)} (hs : s = 2 ∨ s = 3) (h : EB2 w g cap s es) {k : Nat} (hk : k ≤ 2) : EG w (.slice (some ⟨g, k * 6, none⟩) (4 - k) (cap - k)) 26 ((toG s es).drop k) := by
  have h4 := h.len;have hc4 := h.c4;have hl : ((toG s es).drop k).length = 4 - k := by rw [toG_drop_len, h4]
  refine ⟨some ⟨g, k * 6, none⟩, g, k * 6, cap - k, by rw [hl], ⟨by omega, by have := h.most; omega, fun _ => rfl, fun i hi c v hv => ?_⟩, fun x hx => toG_ok hs h.ok x (List.mem_of_mem_drop hx)⟩;rw [hl] at hi;have hki : k + i < es.length := by omega
  rw [toG_drop_get (by rw [hl]; exact hi) hki] at hv
  dsimp only at hv
  rw [txE_num hs] at hv;have := h.get (k + i) hki c v hv;rw [show k * 6 + i * 6 + c = (k + i) * 6 + c by omega];exact this
/-- .. and a bool at the first place -/
theorem EB2.bool {w w' : World} {g cap : Nat} {s : Int} {es : List (List UInt8 × Rat)} (hs : s = 2 ∨ s = 3) (h : EB2 w g cap s es) {k : Nat} (hk : k ≤ 2) (hw : ∀ cur, w.heap[g]? = some (.cells cur 65 (0, 0)) → w'.heap[g]? = some (.cells (((((cur.setIfInBounds (k * 6 + 1) (.int .i64 1)).setIfInBounds (k * 6 + 2) (.bool false)).setIfInBounds (k * 6 + 3) (.string ⟨#[]⟩)).setIfInBounds (k * 6 + 4) (.slice none 0 0)).setIfInBounds (k * 6 + 5) (.slice none 0 0)) 65 (0, 0))) :
    ∃ E, E.length = 4 - k ∧ EG w' (.slice (some ⟨g, k * 6, none⟩) (4 - k) (cap - k)) 26 E := by
  have h4 := h.len;have hc4 := h.c4;obtain ⟨cur, hb, hsz, ht⟩ := h.blk;have hn := hw cur hb;have hl : ((toG s es).drop k).length = 4 - k := by rw [toG_drop_len, h4]
  have hk4 : k < es.length := by omega
  refine ⟨(es[k].1, 1, 0) :: (toG s es).drop (k + 1), by rw [List.length_cons, toG_drop_len, h4]; omega, some ⟨g, k * 6, none⟩, g, k * 6, cap - k, by rw [List.length_cons, toG_drop_len, h4, show 4 - (k + 1) + 1 = 4 - k by omega], ⟨by rw [List.length_cons, toG_drop_len, h4]; omega, by have := h.most; omega, fun _ => rfl, fun i hi c v hv => ?_⟩, fun x hx => ?_⟩
  · rw [heap_cell hn]
    have hc6 : c < 6 := by
      have := (Array.getElem?_eq_some_iff.1 hv).1
      simpa using this
    cases i with
    | zero =>
      have hv' : (#[.string ⟨es[k].1.toArray⟩, .int .i64 1, .bool false, .string ⟨#[]⟩, .slice none 0 0, .slice none 0 0] : Array Value)[c]? = some v := hv;have hsz2 : k * 6 + 5 < cur.size := by omega
      rw [show k * 6 + 0 * 6 + c = k * 6 + c by omega]
      match c, hc6 with
      | 0, _ =>
        have h0 := h.get k hk4 0 _ rfl;rw [heap_cell hb] at h0;cases hv'
        simp only [Array.getElem?_setIfInBounds];rw [if_neg (by omega), if_neg (by omega), if_neg (by omega), if_neg (by omega), if_neg (by omega)];exact h0
      | 1, _ =>
        have hv2 : some (Value.int .i64 1) = some v := hv';rw [← hv2];simp only [Array.getElem?_setIfInBounds, Array.size_setIfInBounds];rw [if_neg (by omega), if_neg (by omega), if_neg (by omega), if_neg (by omega), if_pos trivial, if_pos (by omega)]
      | 2, _ =>
        have hv2 : some (Value.bool false) = some v := hv';rw [← hv2];simp only [Array.getElem?_setIfInBounds, Array.size_setIfInBounds];rw [if_neg (by omega), if_neg (by omega), if_neg (by omega), if_pos trivial, if_pos (by omega)]
      | 3, _ =>
        have hv2 : some (Value.string ⟨#[]⟩) = some v := hv';rw [← hv2];simp only [Array.getElem?_setIfInBounds, Array.size_setIfInBounds];rw [if_neg (by omega), if_neg (by omega), if_pos trivial, if_pos (by omega)]
      | 4, _ =>
        have hv2 : some (Value.slice none 0 0) = some v := hv';rw [← hv2];simp only [Array.getElem?_setIfInBounds, Array.size_setIfInBounds];rw [if_neg (by omega), if_pos trivial, if_pos (by omega)]
      | 5, _ =>
        have hv2 : some (Value.slice none 0 0) = some v := hv';rw [← hv2];simp only [Array.getElem?_setIfInBounds, Array.size_setIfInBounds];rw [if_pos trivial, if_pos (by omega)]
    | succ i =>
      have hi2 : i < ((toG s es).drop (k + 1)).length := by simpa using hi
      have hi3 : k + 1 + i < es.length := by rw [toG_drop_len] at hi2; omega
      have e : ((es[k].1, (1 : Int), (0 : Rat)) :: (toG s es).drop (k + 1))[i + 1] = (es[k + 1 + i].1, s, es[k + 1 + i].2) := by
        rw [List.getElem_cons_succ];exact toG_drop_get hi2 hi3
      rw [e] at hv
      dsimp only at hv
      rw [txE_num hs] at hv;have h0 := h.get (k + 1 + i) hi3 c v hv;rw [heap_cell hb] at h0;simp only [Array.getElem?_setIfInBounds];rw [if_neg (by omega), if_neg (by omega), if_neg (by omega), if_neg (by omega), if_neg (by omega), show k * 6 + (i + 1) * 6 + c = (k + 1 + i) * 6 + c by omega];exact h0
  · rcases List.mem_cons.1 hx with rfl | hx
    · exact .inl rfl
    · exact toG_ok hs h.ok x (List.mem_of_mem_drop hx)
end
end Go.Proofs.YteoklapcifonaaaGreatDoor

/- Environments are drawn: (*Choices).Num, LinearEnv. -/
import Derived.Test.YteoklapcifonaaaGreatDoorWMC
import Derived.Test.YteoklapcifonaaaGreatDoorWLU
import Derived.Maps.OwnOps
namespace Go.Proofs.YteoklapcifonaaaGreatDoor
open Go.RowKit Nmx

/-- a number of a sort is drawn -/
def NumOk (s : Int) (q : Rat) : Prop := DS 26 q ∧ (s = 2 → q.den = 1)
/-- the cells of the bindings of a list of names and numbers -/
def flatB (s : Int) : List (List UInt8 × Rat) → List Value
  | [] => []
  | x :: l => .string ⟨x.1.toArray⟩ :: .int .i64 s :: .bool false :: .string (TX x.2) :: .slice none 0 0 :: .slice none 0 0 :: flatB s l
theorem flatB_append (s : Int) (a b : List (List UInt8 × Rat)) : flatB s (a ++ b) = flatB s a ++ flatB s b := by
  induction a with
  | nil => rfl
  | cons x a ih => rw [List.cons_append, flatB, ih]; rfl
/-- a slice of bindings -/
structure BSl (w : World) (ao : Option Addr) (g off cap : Nat) (s : Int) (es : List (List UInt8 × Rat)) : Prop where
  le : es.length ≤ cap
  most : cap ≤ 9223372036854775807
  ad : 0 < cap → ao = some ⟨g, off, none⟩
  cl : ∀ i (h : i < es.length) (c : Nat) (v : Value), (#[.string ⟨es[i].1.toArray⟩, .int .i64 s, .bool false, .string (TX es[i].2), .slice none 0 0, .slice none 0 0] : Array Value)[c]? = some v → w.cell? ⟨g, off + i * 6 + c, none⟩ = some v
theorem BSl.far {w w' : World} {ao : Option Addr} {g off cap : Nat} {s : Int} {es : List (List UInt8 × Rat)} (h : BSl w ao g off cap s es) (hb : Below w.heap.size w w') : BSl w' ao g off cap s es :=
  ⟨h.le, h.most, h.ad, fun i hi c v hv => (hb.cell (World.block_lt_of_cell? _ _ (h.cl i hi c v hv))).trans (h.cl i hi c v hv)⟩
/-- an environment: the four names, numbers of the sort -/
structure EnvG (s : Int) (es : List (List UInt8 × Rat)) : Prop where
  nm : es.map (·.1) = nm4
  ok : ∀ x ∈ es, NumOk s x.2
def EV (w : World) (v : Value) (s : Int) (es : List (List UInt8 × Rat)) : Prop := ∃ ao g cap, v = .slice ao es.length cap ∧ BSl w ao g 0 cap s es ∧ EnvG s es
theorem EV.far {w w' : World} {v : Value} {s : Int} {es : List (List UInt8 × Rat)} (h : EV w v s es) (hb : Below w.heap.size w w') : EV w' v s es :=
  let ⟨ao, g, cap, h1, h2, h3⟩ := h; ⟨ao, g, cap, h1, h2.far hb, h3⟩
theorem flatB_get (s : Int) (es : List (List UInt8 × Rat)) : ∀ i (h : i < es.length) (c : Nat) (v : Value), (#[.string ⟨es[i].1.toArray⟩, .int .i64 s, .bool false, .string (TX es[i].2), .slice none 0 0, .slice none 0 0] : Array Value)[c]? = some v → (flatB s es)[i * 6 + c]? = some v := by
  induction es with
  | nil => exact fun i h => absurd h (Nat.not_lt_zero i)
  | cons x es ih =>
    intro i h c v hv;cases i with
    | zero =>
      rw [Nat.zero_mul, Nat.zero_add];have hc : c < 6 := by simpa using (Array.getElem?_eq_some_iff.1 hv).1
      match c, hc with
      | 0, _ => exact hv
      | 1, _ => exact hv
      | 2, _ => exact hv
      | 3, _ => exact hv
      | 4, _ => exact hv
      | 5, _ => exact hv
    | succ i =>
      rw [show (i + 1) * 6 + c = i * 6 + c + 6 by omega];exact ih i (by simpa using h) c v hv
theorem bsl_of_row {w : World} {base : Nat} {e : TypeId} {v : Value} {s : Int} {es : List (List UInt8 × Rat)} (h : w.ownsRow base e 6 v es.length (flatB s es)) :
    ∃ ao g cap, v = .slice ao es.length cap ∧ BSl w ao g 0 cap s es := by
  rcases h.2 with ⟨rfl, hn⟩ | ⟨g, cap, cur, hv, hb, hg, hn, hc, hs, htake⟩
  · have : es = [] := List.length_eq_zero_iff.1 hn;subst this;exact ⟨none, 0, 0, rfl, Nat.le_refl _, Nat.zero_le _, fun h => absurd h (Nat.lt_irrefl _), fun i h => absurd h (Nat.not_lt_zero i)⟩
  · refine ⟨some ⟨g, 0, none⟩, g, cap, hv, hn, hc, fun _ => rfl, fun i hi c u hu => ?_⟩;have := h.cells (g := g) (by rw [hv]; rfl) (i * 6 + c) _ (flatB_get s es i hi c u hu);rw [show (⟨g, 0, none⟩ : Addr).add (i * 6 + c) = ⟨g, i * 6 + c, none⟩ by unfold Addr.add; split <;> simp_all] at this;rw [Nat.zero_add];exact this
/-- what an operation of the region may do: the choices go on -/
def ChR (C : Nat) (ao : Option Addr) (n cap : Nat) (w w' : World) : Prop := w.grownBy w' (some C) ∧ (Ch C ao n cap w → Ch C ao n cap w')
theorem chOk (C : Nat) (ao : Option Addr) (n cap : Nat) : RelOk (ChR C ao n cap) := ⟨fun _ => ⟨grown_refl _ _, id⟩, fun _ _ h => h.1.size⟩
/-- between two rounds -/
structure GE (w wr : World) (C : Nat) (ao : Option Addr) (n cap : Nat) (s : Int) (M : Nat) (v : Value) (r : List (List UInt8 × Rat)) : Prop where
  ch : Ch C ao n cap wr
  hm : wr.heap[M]? = some (.cells #[.string ⟨#[117]⟩, .string ⟨#[118]⟩, .string ⟨#[120]⟩, .string ⟨#[121]⟩] 9 (0, 0))
  row : wr.ownsRow (M + 1) 65 6 v r.length (flatB s r)
  l1 : C < w.heap.size
  l2 : w.heap.size ≤ M
  gr : w.grownBy wr (some C)
section
variable {w wr w' : World} {C : Nat} {ao : Option Addr} {n cap : Nat} {s : Int} {M : Nat} {v v' : Value} {r : List (List UInt8 × Rat)}
theorem GE.call (h : GE w wr C ao n cap s M v r) (hr : ChR C ao n cap wr w') : GE w w' C ao n cap s M v r := by
  have h1 := h.l1;have h2 := h.l2;have hb : ∀ g, g ≠ C → g < wr.heap.size → w'.heap[g]? = wr.heap[g]? := fun g hne hl => hr.1.block g hl (fun e => hne (Option.some.inj e))
  exact ⟨hr.2 h.ch, (hb _ (by omega) (lt_of_heap h.hm)).trans h.hm, row_same h.row fun g e => hb g (by have := (h.row.lt g e).1; omega) (h.row.lt g e).2, h1, h2, grown_trans h.gr hr.1⟩
theorem GE.grow {x : List UInt8 × Rat} (h : GE w wr C ao n cap s M v r) (hg : wr.grownBy w' v.ownBlock) (hr : w'.ownsRow (M + 1) 65 6 v' (r.length + 1) (flatB s r ++ [.string ⟨x.1.toArray⟩, .int .i64 s, .bool false, .string (TX x.2), .slice none 0 0, .slice none 0 0])) : GE w w' C ao n cap s M v' (r ++ [x]) := by
  have h1 := h.l1;have h2 := h.l2;have hb : ∀ g, g ≤ M → g < wr.heap.size → w'.heap[g]? = wr.heap[g]? := fun g hne hl => hg.block g hl fun e => by have := (h.row.lt g e.symm).1; omega
  refine ⟨h.ch.grown hg (fun k e => by have := (h.row.lt k e).1; omega), (hb _ (Nat.le_refl _) (lt_of_heap h.hm)).trans h.hm, ?_, h1, h2, growL h.gr hg fun k e => ?_⟩
  · rw [List.length_append, flatB_append];exact hr
  · have := (h.row.lt k e).1; omega
end
theorem nm4_get : ∀ i : Nat, i < 4 → ∃ nm : List UInt8, (#[.string ⟨#[117]⟩, .string ⟨#[118]⟩, .string ⟨#[120]⟩, .string ⟨#[121]⟩] : Array Value)[i]? = some (.string ⟨nm.toArray⟩) ∧ nm4.take (i + 1) = nm4.take i ++ [nm]
  | 0, _ => ⟨[117], rfl, rfl⟩
  | 1, _ => ⟨[118], rfl, rfl⟩
  | 2, _ => ⟨[120], rfl, rfl⟩
  | 3, _ => ⟨[121], rfl, rfl⟩
  | n + 4, h => absurd h (by omega)
section
set_option maxRecDepth 100000
set_option maxHeartbeats 8000000
theorem infoBind : (Tryz.prog.info? 65).map (fun i => (i.zero, i.size, i.bytes)) = some (some (.agg #[.string ⟨#[]⟩, .int .i64 0, .bool false, .string ⟨#[]⟩, .slice none 0 0, .slice none 0 0]), 6, 96) := by kernel_rfl
theorem num_any (C : Nat) (ao : Option Addr) (n cap : Nat) (s : Int) (w : World) (h : Ch C ao n cap w) : Calls Tryz.prog 87 #[.pointer (some ⟨C, 0, none⟩), .int .i64 s] w fun e w' => ∃ q, NumOk s q ∧ e = .returned (.string (TX q)) ∧ Ch C ao n cap w' ∧ w.grownBy w' (some C) := by
  have hi := integer_any C ao n cap w h;have hn := number_any C ao n cap w h;clear h
  by_cases hs : s = 2
  · subst hs;clear hn
    go_enter Tryz.func87, Tryz.ntmps87
    go_wp2_with fail
    refine hi.mono ?_;rintro e w1 ⟨z, hz, rfl, hc, hg⟩
    go_wp2
    go_ret
    exact ⟨(z : Rat), ⟨(DS.int (d := 26) (Nat.lt_trans hz (by decide))), fun _ => Rat.den_intCast _⟩, rfl, hc, hg⟩
  · have hb : (s == 2) = false := by rw [beq_eq_false_iff_ne]; exact hs
    have hd : decide (s = 2) = false := decide_eq_false hs;clear hi
    go_enter Tryz.func87, Tryz.ntmps87
    go_wp2_with fail
    refine hn.mono ?_;rintro e w1 ⟨q, hq, rfl, hc, hg⟩
    go_wp2
    go_ret
    exact ⟨q, ⟨hq, fun e => absurd e hs⟩, rfl, hc, hg⟩
theorem linearEnv_any (C : Nat) (ao : Option Addr) (n cap : Nat) (s : Int) (w : World) (h : Ch C ao n cap w) : Calls Tryz.prog 34 #[.pointer (some ⟨C, 0, none⟩), .int .i64 s] w fun e w' => ∃ es v, e = .returned v ∧ EV w' v s es ∧ Ch C ao n cap w' ∧ w.grownBy w' (some C) := by
  have hal := alloc_far w (.cells #[.string ⟨#[117]⟩, .string ⟨#[118]⟩, .string ⟨#[120]⟩, .string ⟨#[121]⟩] 9);have HS := Lib.hid (⟨h.call hal, heap_alloc_new w _, World.ownsRow_nil _ _ _ _, h.lt, Nat.le_refl _, grown_more (r := some C) (grown_below hal)⟩ : GE w (w.alloc (.cells #[.string ⟨#[117]⟩, .string ⟨#[118]⟩, .string ⟨#[120]⟩, .string ⟨#[121]⟩] 9)) C ao n cap s w.heap.size (.slice none 0 0) []);clear h hal
  go_enter Tryz.func34, Tryz.ntmps34
  go_wp2_with fail
  generalize w.alloc (.cells #[.string ⟨#[117]⟩, .string ⟨#[118]⟩, .string ⟨#[120]⟩, .string ⟨#[121]⟩] 9) = w1 at *;obtain ⟨M, hM⟩ : ∃ M, w.heap.size = M := ⟨_, rfl⟩
  have HSM : Hid (GE w w1 C ao n cap s M (.slice none 0 0) []) := Lib.hid (by rw [← hM]; exact HS.out);rw [hM];clear hM HS
  go_loopg [5, 7] 4 (fun gh v5 v7 wr => ∃ (i : Nat) (v : Value) (r : List (List UInt8 × Rat)), gh = 4 - i ∧ i ≤ 4 ∧ v7 = .int .i64 i ∧ v5 = v ∧ GE w wr C ao n cap s M v r ∧ r.map (·.1) = nm4.take i ∧ ∀ x ∈ r, NumOk s x.2)
  case atStart => exact ⟨0, _, [], rfl, by omega, rfl, rfl, HSM.out, rfl, fun x hx => (List.not_mem_nil hx).elim⟩
  case round =>
    obtain ⟨i, v, r, rfl, hi, rfl, hv5, hge, hnm, hok⟩ := hrel;have hv := hv5.symm;subst hv;clear hv5;have HG := Lib.hid hge;have HNM := Lib.hid hnm;have HOK := Lib.hid hok;clear hge hnm hok HSM;have hi0 : (0 : Int) ≤ (i : Int) := by omega
    by_cases hlt : i < 4
    · have hlt' : (i : Int) < 4 := by omega
      obtain ⟨nm, hnm, htk⟩ := nm4_get i hlt;have HN := Lib.hid hnm;have HTK := Lib.hid htk;obtain ⟨tn, htn⟩ : ∃ tn : ByteArray, (⟨nm.toArray⟩ : ByteArray) = tn := ⟨_, rfl⟩
      have HTN := Lib.hid htn
      have hrl : r.length ≤ 4 := by
        have := congrArg List.length HNM.out;rw [List.length_map, List.length_take] at this
        omega
      have HRL := Lib.hid hrl;clear hnm htk htn hrl;obtain ⟨i0, hi0', hz0, hz1, hz2⟩ := info_parts infoBind
      go_wp2_with fail
      refine add_regionR (chOk C ao n cap) [[], [], [], [1, 2], [1, 2, 3], [], [], [], [6, 7], [5, 6, 7, 8], [1, 2, 3, 4, 5, 6, 7, 8, 9], [1, 2, 3, 4, 5, 6, 7, 8, 9, 10], [0, 1, 2, 3, 4, 5, 6, 7, 8, 9, 10, 11], [0, 1, 2, 3, 4, 5, 6, 7, 8, 9, 10, 11, 12]] (fun W => GE w W C ao n cap s M v r) (fun _ => True) ?_
      iterate 8
        apply a_con
        · intro x; go_simp; done
        · intro x W R hW hF hR;have e2 := (heap_cell hW.hm i).trans HN.out;rw [HTN.out] at e2;clear hF;unfold addAt
          go_simp
          simp only [addUpon];exact hR _ ⟨grown_refl _ _, id⟩
        simp only [Act.put, List.setIfInBounds_toArray, List.set_cons_zero, List.set_cons_succ]
      refine a_opqF (fun u => ∃ q, NumOk s q ∧ u = .string (TX q)) (fun _ _ => True) (fun _ _ _ _ _ => trivial) ?_ ?_ ?_
      · intro x; go_simp; done
      · intro x W R hW hF hR;clear hF;unfold addAt
        go_simp
        simp only [addUpon];refine (num_any C ao n cap s W hW.ch).mono ?_;rintro e w' ⟨q, hq, rfl, hc, hg⟩;exact ⟨_, rfl, hR _ _ ⟨q, hq, rfl⟩ trivial ⟨hg, fun _ => hc⟩⟩
      simp only [Act.put, List.setIfInBounds_toArray, List.set_cons_zero, List.set_cons_succ, List.length_cons, List.length_nil, Nat.zero_add, Nat.reduceAdd];refine a_opqF (fun u => ∃ q, NumOk s q ∧ u = .agg #[.int .i64 s, .bool false, .string (TX q), .slice none 0 0, .slice none 0 0]) (fun _ _ => True) (fun _ _ _ _ _ => trivial) ?_ ?_ ?_
      · intro x; go_simp; done
      · intro x W R hW hF hR;have hs := hF.1.1 rfl;simp only [AK.free] at hs;obtain ⟨q, hq, hx⟩ := hs;simp only [hx];clear hF;unfold addAt
        go_simp
        simp only [addUpon];exact hR _ _ ⟨q, hq, rfl⟩ trivial ⟨grown_refl _ _, id⟩
      simp only [Act.put, List.setIfInBounds_toArray, List.set_cons_zero, List.set_cons_succ, List.length_cons, List.length_nil, Nat.zero_add, Nat.reduceAdd];refine a_opqF (fun u => ∃ q, NumOk s q ∧ u = .agg #[.string tn, .int .i64 s, .bool false, .string (TX q), .slice none 0 0, .slice none 0 0]) (fun _ _ => True) (fun _ _ _ _ _ => trivial) ?_ ?_ ?_
      · intro x; go_simp; done
      · intro x W R hW hF hR;have hs := hF.1.1 rfl;simp only [AK.free] at hs;obtain ⟨q, hq, hx⟩ := hs;simp only [hx];clear hF;unfold addAt
        go_simp
        simp only [addUpon];exact hR _ _ ⟨q, hq, rfl⟩ trivial ⟨grown_refl _ _, id⟩
      simp only [Act.put, List.setIfInBounds_toArray, List.set_cons_zero, List.set_cons_succ, List.length_cons, List.length_nil, Nat.zero_add, Nat.reduceAdd];refine a_opq (fun u W => ∃ q B, NumOk s q ∧ C < B ∧ u = .slice (some ⟨B, 0, none⟩) 1 1 ∧ W.heap[B]? = some (.cells #[.string tn, .int .i64 s, .bool false, .string (TX q), .slice none 0 0, .slice none 0 0] 65 (0, 0))) (fun _ _ _ h hb => let ⟨q, B, h1, h2, h3, h4⟩ := h; ⟨q, B, h1, h2, h3, (hb.1.block _ (lt_of_heap h4) (fun e => by have := Option.some.inj e; omega)).trans h4⟩) ?_ ?_ ?_
      · intro x; go_simp; done
      · intro x W R hW hF hR;have hs := hF.1.1 rfl;simp only [AK.free] at hs;obtain ⟨q, hq, hx⟩ := hs;simp only [hx];clear hF;unfold addAt
        go_simp
        simp only [addUpon];have hal := alloc_far W (.cells #[.string tn, .int .i64 s, .bool false, .string (TX q), .slice none 0 0, .slice none 0 0] 65);exact hR _ _ ⟨q, W.heap.size, hq, hW.ch.lt, rfl, heap_alloc_new _ _⟩ ⟨grown_more (r := some C) (grown_below hal), fun h => h.call hal⟩
      simp only [Act.put, List.setIfInBounds_toArray, List.set_cons_zero, List.set_cons_succ, List.length_cons, List.length_nil, Nat.zero_add, Nat.reduceAdd];refine a_wrt (fun x W => ∃ q, NumOk s q ∧ GE w W C ao n cap s M (x 12) (r ++ [(nm, q)])) (fun _ _ _ h hb => let ⟨q, h1, h2⟩ := h; ⟨q, h1, h2.call hb⟩) (fun x x' w h hT => by have e := h 12 (.inl rfl); rw [e] at hT; exact hT) ?_ ?_ ?_
      · intro x; go_simp; done
      · intro x W R hW hF hD hR;obtain ⟨q, B, hq, -, hx, hB⟩ := hF.1.2 rfl rfl rfl;clear hF;simp only [hx];have hrl := HRL.out;refine addAt_append (.tmp 15) (.tmp 26) 52 rfl (M + 1) 65 i0 _ 6 96 Tryz.underlying52 hi0' hz0 hz1 hz2 rfl (by decide) v r.length (flatB s r) rfl hW.row ⟨B, 0, none⟩ 1 1 [.string tn, .int .i64 s, .bool false, .string (TX q), .slice none 0 0, .slice none 0 0] rfl rfl (World.news_of_block (cs := #[.string tn, .int .i64 s, .bool false, .string (TX q), .slice none 0 0, .slice none 0 0]) hB) (by simp [Value.oneCell']) (by unfold maxLen; omega) (by omega) (lt_of_heap hW.hm) ?_;intro v' w' hrow hg;refine hR _ _ ?_ trivial hg.size;show ∃ q, NumOk s q ∧ GE w w' C ao n cap s M (updX x 12 v' 12) (r ++ [(nm, q)]);rw [updX_self];refine ⟨q, hq, hW.grow (x := (nm, q)) hg ?_⟩;rw [HTN.out];exact hrow
      simp only [Act.put, List.setIfInBounds_toArray, List.set_cons_zero, List.set_cons_succ, List.length_cons, List.length_nil, Nat.zero_add, Nat.reduceAdd];refine a_freX (fun x => x 13 = x 12) (fun x x' hx h => by rw [← hx 13 (.inl rfl), ← hx 12 (.inr (List.contains_iff_mem.1 rfl))]; exact h) ?_ ?_ ?_
      · intro x; go_simp; done
      · intro x W R hW hF hR;clear hF;unfold addAt
        go_simp
        simp only [addUpon];refine hR _ _ ?_ ⟨grown_refl _ _, id⟩;show updX x 13 _ 13 = updX x 13 _ 12;rw [updX_self, updX_ne (i := 13) (j := 12) _ _ (by decide)]
      simp only [Act.put, List.setIfInBounds_toArray, List.set_cons_zero, List.set_cons_succ, List.length_cons, List.length_nil, Nat.zero_add, Nat.reduceAdd];refine a_nil (by kernel_rfl) (by kernel_rfl) (by kernel_rfl) (fun _ _ h hb => h.call hb) (fun _ _ _ _ => trivial) (fun _ _ => trivial) (HG.out.call (w' := wr.drew) ⟨grown_more (r := some C) (grown_below (Below.refl _ _).drew), fun h => h.call (Below.refl _ _).drew⟩) ?_;intro x W hE hW hF hD;clear hD;obtain ⟨q, hq, hge⟩ := hF.2.1.2 rfl;have hx := hF.1.1;simp only [AK.free] at hx;simp only [hx];have HL := Lib.hid hge;have HQ := Lib.hid hq;clear hF hx hge hq hW hE
      go_wp2_with fail
      go_roundg (4 - (i + 1))
      case rel =>
        refine ⟨i + 1, _, r ++ [(nm, q)], rfl, by omega, by go_num, rfl, HL.out, ?_, fun x hx => ?_⟩
        · rw [HTK.out, List.map_append, HNM.out]; rfl
        · rcases List.mem_append.1 hx with h1 | h1
          · exact HOK.out x h1
          · rw [List.mem_singleton.1 h1]; exact HQ.out
      case measure => omega
    · have hlt' : ¬ ((i : Int) < 4) := by omega
      have h4 : i = 4 := by omega
      subst h4;obtain ⟨ao', g, cp, rfl, hb⟩ := bsl_of_row HG.out.row;have HBS := Lib.hid hb;clear hb
      go_wp2
      go_ret
      exact ⟨r, _, rfl, ⟨ao', g, cp, rfl, HBS.out, HNM.out, HOK.out⟩, HG.out.ch, HG.out.gr⟩
end
end Go.Proofs.YteoklapcifonaaaGreatDoor
/- Environments are valid: value.Valid at numbers, validEnv. -/
namespace Go.Proofs.YteoklapcifonaaaGreatDoor
open Go.RowKit Nmx

section
set_option maxRecDepth 100000
set_option maxHeartbeats 8000000
theorem valValid {s : Int} {q : Rat} (hs : s = 2 ∨ s = 3) (hq : NumOk s q) (w : World) (hE : Env w) :
    Calls Tryz.prog 143 #[.agg #[.int .i64 s, .bool false, .string (TX q), .slice none 0 0, .slice none 0 0]] w fun e w' => e = .returned (.bool true) ∧ Below w.heap.size w w' := by
  have hii := fun W (h : Below w.heap.size w W) => numIsIntT hq.1 (by decide) W (hE.far h)
  have hva := fun W (h : Below w.heap.size w W) => numValidE hq.1 (by decide) W (hE.far h)
  have hden : s = 2 → decide (q.den = 1) = true := fun h => decide_eq_true (hq.2 h)
  generalize TX q = tq at *;have HA := Lib.hid (heap_alloc_new w (.cells #[.int .i64 s, .bool false, .string tq, .slice none 0 0, .slice none 0 0] 63));have HB := Lib.hid (alloc_far w (.cells #[.int .i64 s, .bool false, .string tq, .slice none 0 0, .slice none 0 0] 63));have HII := Lib.hid hii;have HVA := Lib.hid hva;clear hii hva hq hE;rcases hs with rfl | rfl
  · have hd := hden rfl;have HD := Lib.hid hd;clear hden hd
    go_enter Tryz.func143, Tryz.ntmps143
    go_wp2_with fail
    refine (HII.out _ HB.out).mono ?_;rintro e w1 ⟨rfl, hb⟩;rw [HD.out];replace HB := Lib.hid (HB.out.trans (hb.mono HB.out.size));clear hb
    go_wp2
    go_ret
    exact ⟨rfl, HB.out⟩
  · clear hden
    go_enter Tryz.func143, Tryz.ntmps143
    go_wp2_with fail
    refine (HVA.out _ HB.out).mono ?_;rintro e w1 ⟨rfl, hb⟩;replace HB := Lib.hid (HB.out.trans (hb.mono HB.out.size));clear hb
    go_wp2
    go_ret
    exact ⟨rfl, HB.out⟩
theorem validEnvF {s : Int} {q : Rat} {nm : ByteArray} (hs : s = 2 ∨ s = 3) (hq : NumOk s q) (w : World) (hE : Env w) :
    Calls Tryz.prog 142 #[.agg #[.string nm, .int .i64 s, .bool false, .string (TX q), .slice none 0 0, .slice none 0 0]] w fun e w' => e = .returned (.bool false) ∧ Below w.heap.size w w' := by
  have hva := fun W (h : Below w.heap.size w W) => valValid hs hq W (hE.far h)
  generalize TX q = tq at *;have HA := Lib.hid (heap_alloc_new w (.cells #[.string nm, .int .i64 s, .bool false, .string tq, .slice none 0 0, .slice none 0 0] 65));have HB := Lib.hid (alloc_far w (.cells #[.string nm, .int .i64 s, .bool false, .string tq, .slice none 0 0, .slice none 0 0] 65));have HVA := Lib.hid hva;clear hva hq hE hs
  go_enter Tryz.func142, Tryz.ntmps142
  go_wp2_with fail
  refine (HVA.out _ HB.out).mono ?_;rintro e w1 ⟨rfl, hb⟩;replace HB := Lib.hid (HB.out.trans (hb.mono HB.out.size));clear hb
  go_wp2
  go_ret
  exact ⟨rfl, HB.out⟩
theorem indexFunc {s : Int} {es : List (List UInt8 × Rat)} {ao : Option Addr} {g off cap : Nat} (hs : s = 2 ∨ s = 3) (w : World) (h : BSl w ao g off cap s es) (hq : ∀ x ∈ es, NumOk s x.2) (hE : Env w) :
    Calls Tryz.prog 166 #[.slice ao es.length cap, (.func (.func 142) #[] #[])] w fun e w' => e = .returned (.int .i64 (-1)) ∧ Below w.heap.size w w' := by
  have hle := h.le;have hmost := h.most;have HH := Lib.hid h;have HQ := Lib.hid hq;have HE := Lib.hid hE;obtain ⟨n, hn⟩ : ∃ n, es.length = n := ⟨_, rfl⟩
  have HN := Lib.hid hn;rw [hn] at hle ⊢;clear hn h hq hE
  go_enter Tryz.func166, Tryz.ntmps166
  go_wp2_with fail
  go_loopg [8] n (fun gh v8 wr => ∃ (i : Nat), gh = n - i ∧ i ≤ n ∧ v8 = .int .i64 i ∧ Below w.heap.size w wr)
  case atStart => exact ⟨0, rfl, Nat.zero_le _, rfl, Below.refl _ _⟩
  case round =>
    obtain ⟨i, rfl, hi, rfl, hb⟩ := hrel;have HB := Lib.hid hb;clear hb;have hi0 : (0 : Int) ≤ (i : Int) := by omega
    by_cases hlt : i < n
    · have hlt' : (i : Int) < (n : Int) := by omega
      have hl : i < es.length := by rw [HN.out]; exact hlt
      have had := HH.out.ad (by omega);subst had;have hcl := fun c v hv => (HH.out.far HB.out).cl i hl c v hv
      have hqi := HQ.out _ (List.getElem_mem hl);have hvf := fun W (hW : Below w.heap.size w W) => @validEnvF s es[i].2 ⟨es[i].1.toArray⟩ hs hqi W (HE.out.far hW)
      generalize TX es[i].2 = tq at *;generalize (⟨es[i].1.toArray⟩ : ByteArray) = tn at *;have c0 := hcl 0 _ rfl;rw [Nat.add_zero] at c0;have c1 := hcl 1 _ rfl;have c2 := hcl 2 _ rfl;have c3 := hcl 3 _ rfl;have c4 := hcl 4 _ rfl;have c5 := hcl 5 _ rfl;have HVF := Lib.hid hvf;clear hvf hcl hqi hl
      go_wp2_with fail
      refine (HVF.out _ HB.out).mono ?_;rintro e w1 ⟨rfl, hb⟩;have HB1 := Lib.hid (HB.out.trans (hb.mono HB.out.size));clear hb c0 c1 c2 c3 c4 c5
      go_wp2_with fail
      go_roundg (n - (i + 1))
      case rel => exact ⟨i + 1, rfl, by omega, by go_num, HB1.out⟩
      case measure => omega
    · have hlt' : ¬ ((i : Int) < (n : Int)) := by omega
      go_wp2
      go_ret
      exact ⟨rfl, HB.out⟩
theorem containsFunc {s : Int} {es : List (List UInt8 × Rat)} {ao : Option Addr} {g off cap : Nat} (hs : s = 2 ∨ s = 3) (w : World) (h : BSl w ao g off cap s es) (hq : ∀ x ∈ es, NumOk s x.2) (hE : Env w) :
    Calls Tryz.prog 141 #[.slice ao es.length cap, (.func (.func 142) #[] #[])] w fun e w' => e = .returned (.bool false) ∧ Below w.heap.size w w' := by
  have hx := indexFunc hs w h hq hE;clear h hq hE
  go_enter Tryz.func141, Tryz.ntmps141
  go_wp2_with fail
  refine hx.mono ?_;rintro e w1 ⟨rfl, hb⟩;clear hx
  go_wp2
  go_ret
  exact ⟨rfl, hb⟩
theorem validEnv_any {s : Int} {es : List (List UInt8 × Rat)} {v : Value} (hs : s = 2 ∨ s = 3) (w : World) (h : EV w v s es) (hE : Env w) :
    Calls Tryz.prog 92 #[v] w fun e w' => e = .returned (.bool true) ∧ Below w.heap.size w w' := by
  obtain ⟨ao, g, cap, rfl, hb, hg⟩ := h;have hx := containsFunc hs w hb hg.ok hE;clear hb hg hE
  go_enter Tryz.func92, Tryz.ntmps92
  go_wp2_with fail
  refine hx.mono ?_;rintro e w1 ⟨rfl, hb⟩;clear hx
  go_wp2
  go_ret
  exact ⟨rfl, hb⟩
end
end Go.Proofs.YteoklapcifonaaaGreatDoor
/- A map with strings for keys, as a list of names and values: laws for the walk. -/
namespace Go.Proofs.YteoklapcifonaaaGreatDoor
open Go.RowKit Nmx
open Go.MapKept

/-- block B is a map that holds these names, in this order, with these values -/
def MapS (w : World) (B : Nat) (kvs : List (ByteArray × Value)) : Prop := ∃ es clock, w.heap[B]? = some (.map es clock) ∧ es.toList.map (fun e => (e.key, e.val)) = kvs.map (fun p => (Value.string p.1, p.2))
/-- where a name stands, and its value -/
def findS (k : ByteArray) : List (ByteArray × Value) → Nat → Option (Nat × Value)
  | [], _ => none
  | p :: l, i => if k = p.1 then some (i, p.2) else findS k l (i + 1)
theorem findNow_str (k : ByteArray) : ∀ (l : List MapEntry) (kvs : List (ByteArray × Value)) (i : Nat), l.map (fun e => (e.key, e.val)) = kvs.map (fun p => (Value.string p.1, p.2)) → Instr.findNow .string (.string k) l i = some (findS k kvs i)
  | [], [], _, _ => rfl
  | [], _ :: _, _, h => by cases h
  | _ :: _, [], _, h => by cases h
  | e :: l, p :: kvs, i, h => by
    injection h with h1 h2;injection h1 with h3 h4;unfold Instr.findNow findS;rw [h3, h4];rw [show Instr.sameNow .string (.string k) (.string p.1) = some (k == p.1) from rfl]
    by_cases hk : k = p.1
    · rw [if_pos hk, (bytes_beq k p.1).2 hk]
    · rw [if_neg hk, show (k == p.1) = false from Bool.eq_false_iff.2 fun h => hk ((bytes_beq k p.1).1 h)];exact findNow_str k l kvs (i + 1) h2
theorem MapS.far {w w' : World} {B : Nat} {kvs : List (ByteArray × Value)} (h : MapS w B kvs) (hb : Below w.heap.size w w') : MapS w' B kvs :=
  let ⟨es, c, h1, h2⟩ := h; ⟨es, c, (hb.block _ (lt_of_heap h1)).trans h1, h2⟩
theorem MapS.but {w w' : World} {B : Nat} {kvs : List (ByteArray × Value)} (h : MapS w B kvs) (ho : w'.heap[B]? = w.heap[B]?) : MapS w' B kvs :=
  let ⟨es, c, h1, h2⟩ := h; ⟨es, c, ho.trans h1, h2⟩
theorem MapS.lt {w : World} {B : Nat} {kvs : List (ByteArray × Value)} (h : MapS w B kvs) : B < w.heap.size :=
  let ⟨_, _, h1, _⟩ := h; lt_of_heap h1
theorem run_makeMapN {P : Program} {t k e : TypeId} (ht : P.underlying t = some (.map k e)) (q : IntKind) (n : Int) (w : World) : (Instr.makeMap t (some (.int q n))).run P w = .ok (.map (some w.heap.size)) (w.alloc (.map #[] 0)) := by
  simp [Instr.makeMap, run_underlying ht, asInt, Result.andThen]
  rfl
theorem MapS.made (w : World) : MapS (w.alloc (.map #[] 0)) w.heap.size [] := ⟨#[], 0, heap_alloc_new w _, rfl⟩
section
variable {P : Program} {k e t : TypeId} (hk : P.underlying k = some .string) (ht : P.underlying t = some (.map k e)) {w : World} {B : Nat} {kvs : List (ByteArray × Value)} (h : MapS w B kvs)
include hk ht h
theorem run_look_hit {s : ByteArray} {j : Nat} {v : Value} (hf : findS s kvs 0 = some (j, v)) : (Instr.lookup t (.map (some B)) (.string s) true).run P w = .ok (.tuple #[v, .bool true]) w := by
  obtain ⟨es, c, h1, h2⟩ := h;have hn := findNow_str s es.toList kvs 0 h2;rw [hf] at hn
  simp [Instr.lookup, run_underlying ht, Go.run_getObj_map _ _ _ _ h1, run_checkKey hk (k := .string s) trivial, run_findKey hk hn, Result.andThen]
theorem run_look_miss {s : ByteArray} {z : Value} (hf : findS s kvs 0 = none) (hz : (zeroValue e).run P w = .ok z w) : (Instr.lookup t (.map (some B)) (.string s) true).run P w = .ok (.tuple #[z, .bool false]) w := by
  obtain ⟨es, c, h1, h2⟩ := h;have hn := findNow_str s es.toList kvs 0 h2;rw [hf] at hn
  simp [Instr.lookup, run_underlying ht, Go.run_getObj_map _ _ _ _ h1, run_checkKey hk (k := .string s) trivial, run_findKey hk hn, Result.andThen, hz]
theorem run_put_miss {s : ByteArray} {v : Value} (hf : findS s kvs 0 = none) : ∃ w', (Instr.mapUpdate t (.map (some B)) (.string s) v).run P w = .ok () w' ∧ MapS w' B (kvs ++ [(s, v)]) ∧ w.grownBy w' (some B) := by
  obtain ⟨es, c, h1, h2⟩ := h;have hn := findNow_str s es.toList kvs 0 h2;rw [hf] at hn;obtain ⟨s1, s2⟩ := Go.MapKept.heap_set (o' := .map (es.push { key := .string s, val := v, born := c }) (c + 1)) h1;refine ⟨{ w with heap := w.heap.setIfInBounds B (.map (es.push { key := .string s, val := v, born := c }) (c + 1)) }, by simp [Instr.mapUpdate, run_underlying ht, Go.run_getObj_map _ _ _ _ h1, run_checkKey hk (k := .string s) trivial, run_findKey hk hn, run_setObj_map _ h1, Result.andThen], ⟨_, _, s1, ?_⟩, ⟨rfl, rfl, rfl, by simp, fun g hg hne => s2 g fun e => hne (by rw [e])⟩⟩
  simp [h2]
end
section
variable {P : Program} {w : World} {ops : Array Oper} {rest : List Oper} {o : Oper} {a : Act} {Q : Exit → Act → World → Prop} (hg : o.guard = none) (k e t : TypeId)
include hg
theorem wpList_look_hit (x i : Operand) (hop : o.op = Op.lookup t x i true) (hk : P.underlying k = some .string) (ht : P.underlying t = some (.map k e)) (B : Nat) (kvs : List (ByteArray × Value)) (hm : a.eval x = .map (some B)) (h : MapS w B kvs) (s : ByteArray) (hs : a.eval i = .string s) (j : Nat) (v : Value) (hf : findS s kvs 0 = some (j, v))
    (hK : wpList P ops Q rest (a.put o.dst (.tuple #[v, .bool true])) w) : wpList P ops Q (o :: rest) a w := by
  refine wpList_plain hg fun K' hK' => ?_
  have hrun := run_look_hit hk ht h hf;unfold Oper.wp
  simp [execOp, hop, hm, hs, hrun, Result.andThen]
  exact hK' _ _ hK
theorem wpList_look_miss (x i : Operand) (hop : o.op = Op.lookup t x i true) (hk : P.underlying k = some .string) (ht : P.underlying t = some (.map k e)) (B : Nat) (kvs : List (ByteArray × Value)) (hm : a.eval x = .map (some B)) (h : MapS w B kvs) (s : ByteArray) (hs : a.eval i = .string s) (z : Value) (hf : findS s kvs 0 = none) (hz : (zeroValue e).run P w = .ok z w)
    (hK : wpList P ops Q rest (a.put o.dst (.tuple #[z, .bool false])) w) : wpList P ops Q (o :: rest) a w := by
  refine wpList_plain hg fun K' hK' => ?_
  have hrun := run_look_miss hk ht h hf hz;unfold Oper.wp
  simp [execOp, hop, hm, hs, hrun, Result.andThen]
  exact hK' _ _ hK
theorem wpList_put_miss (m x v : Operand) (hop : o.op = Op.mapUpdate t m x v) (hk : P.underlying k = some .string) (ht : P.underlying t = some (.map k e)) (B : Nat) (kvs : List (ByteArray × Value)) (hm : a.eval m = .map (some B)) (h : MapS w B kvs) (s : ByteArray) (hs : a.eval x = .string s) (u : Value) (hu : a.eval v = u) (hf : findS s kvs 0 = none)
    (hK : ∀ w', MapS w' B (kvs ++ [(s, u)]) → w.grownBy w' (some B) → wpList P ops Q rest (a.put o.dst undef) w') : wpList P ops Q (o :: rest) a w := by
  refine wpList_plain hg fun K' hK' => ?_
  obtain ⟨w', hrun, r1, r2⟩ := run_put_miss hk ht h (v := u) hf;unfold Oper.wp
  simp [execOp, hop, hm, hs, hu, hrun, Result.andThen]
  exact hK' _ _ (hK w' r1 r2)
end
end Go.Proofs.YteoklapcifonaaaGreatDoor
/- The value of an expression in an environment: eval. -/
namespace Go.Proofs.YteoklapcifonaaaGreatDoor
open Go.RowKit Nmx

/-- the value -/
def evS (p : Rat) (cs : List (List UInt8 × Rat)) (f : List UInt8 → Rat) : Rat := cs.foldl (fun a x => a + x.2 * f x.1) p
/-- a number as a value of a sort -/
def valV (s : Int) (q : Rat) : Value := .agg #[.int .i64 s, .bool false, .string (TX q), .slice none 0 0, .slice none 0 0]
def mapV (s : Int) (es : List (List UInt8 × Rat)) : List (ByteArray × Value) := es.map fun x => (⟨x.1.toArray⟩, valV s x.2)
theorem mapV_append (s : Int) (a b : List (List UInt8 × Rat)) : mapV s (a ++ b) = mapV s a ++ mapV s b := List.map_append
theorem bytes_inj {a b : List UInt8} (h : (⟨a.toArray⟩ : ByteArray) = ⟨b.toArray⟩) : a = b := by
  injection h with h;exact congrArg Array.toList h
theorem findS_none {k : ByteArray} : ∀ (l : List (ByteArray × Value)) (i : Nat), (∀ p ∈ l, k ≠ p.1) → findS k l i = none
  | [], _, _ => rfl
  | p :: l, i, h => by
    unfold findS;rw [if_neg (h p (by simp))];exact findS_none l (i + 1) fun q hq => h q (by simp [hq])
theorem findS_cof {s : Int} {n : List UInt8} : ∀ (es : List (List UInt8 × Rat)) (i : Nat), n ∈ es.map (·.1) → ∃ j, findS ⟨n.toArray⟩ (mapV s es) i = some (j, valV s (cof es n))
  | [], _, h => (List.not_mem_nil h).elim
  | x :: es, i, h => by
    obtain ⟨m, q⟩ := x;unfold mapV findS;rw [cof_cons]
    by_cases hn : m = n
    · subst hn;exact ⟨i, by simp⟩
    · have h1 : n ∈ es.map (·.1) := (List.mem_cons.1 h).resolve_left fun e => hn e.symm
      obtain ⟨j, hj⟩ := findS_cof (s := s) es (i + 1) h1;refine ⟨j, ?_⟩;simp only [List.map_cons];rw [if_neg (fun e => hn (bytes_inj e).symm), if_neg hn];exact hj
theorem nm4_new : ∀ i, i < 4 → ∀ x ∈ nm4.take i, nm4[i]? ≠ some x := by decide
theorem env_new {s : Int} {es : List (List UInt8 × Rat)} (h : EnvG s es) {i : Nat} (hi : i < es.length) : findS ⟨es[i].1.toArray⟩ (mapV s (es.take i)) 0 = none := by
  refine findS_none _ _ fun p hp e => ?_
  obtain ⟨x, hx, rfl⟩ := List.mem_map.1 hp;have e1 := bytes_inj e
  have hl : es.length = 4 := by
    have := congrArg List.length h.nm;rwa [List.length_map] at this
  refine nm4_new i (by omega) x.1 ?_ ?_
  · rw [← h.nm, ← List.map_take]; exact List.mem_map.2 ⟨x, hx, rfl⟩
  · rw [← h.nm, List.getElem?_map, List.getElem?_eq_getElem hi];exact congrArg some e1
theorem take_mapV {s : Int} {es : List (List UInt8 × Rat)} {i : Nat} (hi : i < es.length) : mapV s (es.take (i + 1)) = mapV s (es.take i) ++ [(⟨es[i].1.toArray⟩, valV s es[i].2)] := by
  rw [List.take_succ_eq_append_getElem hi, mapV_append]; rfl
section
set_option maxRecDepth 100000
set_option maxHeartbeats 8000000
theorem zeroVal (w : World) : (zeroValue 63).run Tryz.prog w = .ok (.agg #[.int .i64 0, .bool false, .string ⟨#[]⟩, .slice none 0 0, .slice none 0 0]) w := by kernel_rfl
/-- the boxes of eval: the expression, the result, the map -/
structure EB (w W : World) (s : Int) (a1 : Option Addr) (n1 c1 : Nat) (t1 : ByteArray) (kvs : List (ByteArray × Value)) : Prop where
  a : W.heap[w.heap.size]? = some (.cells #[.int .i64 s, .slice a1 n1 c1, .string t1] 26 (0, 0))
  r : W.heap[w.heap.size + 1]? = some (.cells #[.int .i64 0, .bool false, .slice none 0 0, .int .i64 0, .bool false, .slice none 0 0] 85 (0, 0))
  m : MapS W (w.heap.size + 1 + 1) kvs
  bel : Below w.heap.size w W
theorem EB.far {w W W' : World} {s : Int} {a1 : Option Addr} {n1 c1 : Nat} {t1 : ByteArray} {kvs : List (ByteArray × Value)} (h : EB w W s a1 n1 c1 t1 kvs) (hb : Below W.heap.size W W') : EB w W' s a1 n1 c1 t1 kvs :=
  ⟨(hb.block _ (lt_of_heap h.a)).trans h.a, (hb.block _ (lt_of_heap h.r)).trans h.r, h.m.far hb, h.bel.trans (hb.mono h.bel.size)⟩
theorem EB.put {w W W' : World} {s : Int} {a1 : Option Addr} {n1 c1 : Nat} {t1 : ByteArray} {kvs kvs' : List (ByteArray × Value)} (h : EB w W s a1 n1 c1 t1 kvs) (hm : MapS W' (w.heap.size + 1 + 1) kvs') (hg : W.grownBy W' (some (w.heap.size + 1 + 1))) : EB w W' s a1 n1 c1 t1 kvs' :=
  ⟨(hg.block _ (lt_of_heap h.a) (fun e => by have := Option.some.inj e; omega)).trans h.a, (hg.block _ (lt_of_heap h.r) (fun e => by have := Option.some.inj e; omega)).trans h.r, hm, h.bel.grown hg h.bel.size (fun k e => by cases e; omega)⟩
theorem newE (w : World) (o1 o2 : Obj) : ((((w.alloc o1).alloc o2).alloc (.map #[] 0)).heap[w.heap.size]? = some o1 ∧ (((w.alloc o1).alloc o2).alloc (.map #[] 0)).heap[w.heap.size + 1]? = some o2 ∧ MapS (((w.alloc o1).alloc o2).alloc (.map #[] 0)) (w.heap.size + 1 + 1) [] ∧ Below w.heap.size w (((w.alloc o1).alloc o2).alloc (.map #[] 0))) := by
  obtain ⟨h1, h2, h3, h4⟩ := newL3 w o1 o2 (.map #[] 0);exact ⟨h1, h2, ⟨#[], 0, h3, rfl⟩, h4⟩
/-- .. and the sum in S -/
structure ES (w W : World) (s : Int) (a1 : Option Addr) (n1 c1 : Nat) (t1 : ByteArray) (kvs : List (ByteArray × Value)) (S : Nat) (y0 y1 y2 y3 y4 y5 : Value) (q : Rat) : Prop where
  eb : EB w W s a1 n1 c1 t1 kvs
  hs : W.heap[S]? = some (.cells #[y0, y1, y2, y3, y4, y5] 85 (0, 0))
  vs : RV W (.agg #[y0, y1, y2, y3, y4, y5]) q
  l1 : w.heap.size + 1 + 1 < S
section
variable {w W W' : World} {s : Int} {a1 : Option Addr} {n1 c1 : Nat} {t1 : ByteArray} {kvs : List (ByteArray × Value)} {S : Nat} {y0 y1 y2 y3 y4 y5 : Value} {q : Rat}
theorem ES.far (h : ES w W s a1 n1 c1 t1 kvs S y0 y1 y2 y3 y4 y5 q) (hb : Below W.heap.size W W') : ES w W' s a1 n1 c1 t1 kvs S y0 y1 y2 y3 y4 y5 q :=
  ⟨h.eb.far hb, (hb.block _ (lt_of_heap h.hs)).trans h.hs, h.vs.far hb, h.l1⟩
theorem ES.put (h : ES w W s a1 n1 c1 t1 kvs S y0 y1 y2 y3 y4 y5 q) {z0 z1 z2 z3 z4 z5 : Value} {q' : Rat} (hq : RV W (.agg #[z0, z1, z2, z3, z4, z5]) q') : ES w (set6 W S z0 z1 z2 z3 z4 z5) s a1 n1 c1 t1 kvs S z0 z1 z2 z3 z4 z5 q' := by
  have h1 := h.l1;have ho : ∀ g, g ≠ S → (set6 W S z0 z1 z2 z3 z4 z5).heap[g]? = W.heap[g]? := fun g hg => set6_other hg _ _ _ _ _ _
  exact ⟨⟨(ho _ (by omega)).trans h.eb.a, (ho _ (by omega)).trans h.eb.r, h.eb.m.but (ho _ (by omega)), set6_below h.eb.bel (by omega) _ _ _ _ _ _⟩, set6_heap h.hs _ _ _ _ _ _, hq.but h.hs (by decide) ho, h1⟩
end
theorem evS_snoc {p : Rat} {cs : List (List UInt8 × Rat)} {f : List UInt8 → Rat} {j : Nat} (h : j < cs.length) : evS p (cs.take (j + 1)) f = evS p (cs.take j) f + cs[j].2 * f cs[j].1 := by
  unfold evS;rw [List.take_succ_eq_append_getElem h, List.foldl_append];rfl
theorem evS_ds {d : Nat} {f : List UInt8 → Rat} (hf : ∀ n, DS 26 (f n)) : ∀ (cs : List (List UInt8 × Rat)) (e : Nat) (p : Rat), DS e p → (∀ x ∈ cs, DS d x.2) → DS (e + cs.length * (d + 27)) (evS p cs f)
  | [], e, p, hp, _ => by rw [List.length_nil, Nat.zero_mul]; exact hp
  | x :: cs, e, p, hp, hc => by
    have h1 := (hp.add ((hc x (by simp)).mul (hf x.1)))
    have h2 := evS_ds hf cs _ _ h1 fun y hy => hc y (by simp [hy])
    rw [show e + (d + 26) + 1 + cs.length * (d + 27) = e + (x :: cs).length * (d + 27) by rw [List.length_cons, Nat.add_mul]; omega] at h2;exact h2
theorem end_ri {fn : Func} {t u : Tmp} {a : Act} {w2 : World} {R : Nat} {s1 : Int} {b1 : Bool} {a1 : Option Addr} {n1 c1 : Nat} {s2 : Int} {b2 : Bool} {a2 : Option Addr} {n2 c2 : Nat} {post : Ending → World → Prop} (hres : fn.results = #[.cell t 85, .tmp u]) (hd : a.defers = []) (ht : a.tmps.getD t undef = .pointer (some ⟨R, 0, none⟩)) (hu : a.tmps.getD u undef = .int .i64 0)
    (hR : w2.heap[R]? = some (.cells #[.int .i64 s1, .bool b1, .slice a1 n1 c1, .int .i64 s2, .bool b2, .slice a2 n2 c2] 85 (0, 0))) (h : post (.returned (.tuple #[.agg #[.int .i64 s1, .bool b1, .slice a1 n1 c1, .int .i64 s2, .bool b2, .slice a2 n2 c2], .int .i64 0])) w2) :
    bodyPost Tryz.prog fn post .ret a w2 := by
  have k0 := heap_cell hR 0;have k1 := heap_cell hR 1;have k2 := heap_cell hR 2;have k3 := heap_cell hR 3;have k4 := heap_cell hR 4;have k5 := heap_cell hR 5
  simp at k0 k1 k2 k3 k4 k5
  refine bodyPost_ret (v := .tuple #[.agg #[.int .i64 s1, .bool b1, .slice a1 n1 c1, .int .i64 s2, .bool b2, .slice a2 n2 c2], .int .i64 0]) ?_ hd h;have ht' : a.tmps[t]?.getD undef = .pointer (some ⟨R, 0, none⟩) := by simpa using ht
  have hu' : a.tmps[u]?.getD undef = .int .i64 0 := by simpa using hu
  simp [results, hres, go_sem, ht', hu', k0, k1, k2, k3, k4, k5]
theorem env_ds {s : Int} {es : List (List UInt8 × Rat)} (h : EnvG s es) (n : List UInt8) : DS 26 (cof es n) := by
  have : ∀ l : List (List UInt8 × Rat), (∀ x ∈ l, NumOk s x.2) → DS 26 (cof l n) := by
    intro l
    induction l with
    | nil => exact fun _ => DS.zero 26
    | cons y l ih =>
      intro h;obtain ⟨m, p⟩ := y;rw [cof_cons]
      split
      · exact (h (m, p) (by simp)).1
      · exact ih fun x hx => h x (by simp [hx])
  exact this es h.ok
theorem eval_any {d : Nat} {w : World} {s : Int} {a1 : Option Addr} {n1 c1 : Nat} {t1 : ByteArray} {p : Rat} {cs : List (List UInt8 × Rat)} {ve : Value} {es : List (List UInt8 × Rat)} (h : LV w (.agg #[.int .i64 s, .slice a1 n1 c1, .string t1]) s d p cs) (he : EV w ve s es) (hd : d ≤ 400) (hE : Env w) :
    Calls Tryz.prog 93 #[.agg #[.int .i64 s, .slice a1 n1 c1, .string t1], ve] w fun e w' => ∃ v, e = .returned (.tuple #[v, .int .i64 0]) ∧ RV w' v (evS p cs (cof es)) ∧ Below w.heap.size w w' := by
  obtain ⟨ae, ge, ce, rfl, hbs, hg⟩ := he;have hle := hbs.le;have hmost := hbs.most
  have hl4 : es.length = 4 := by
    have := congrArg List.length hg.nm;rwa [List.length_map] at this
  have hmm := fun n => @run_makeMapN Tryz.prog 143 9 63 Tryz.underlying143 .i64 n
  obtain ⟨m1, m2, m3, mb⟩ := newE w (.cells #[.int .i64 s, .slice a1 n1 c1, .string t1] 26) (.cells #[.int .i64 0, .bool false, .slice none 0 0, .int .i64 0, .bool false, .slice none 0 0] 85);have HEB := Lib.hid (⟨m1, m2, m3, mb⟩ : EB w _ s a1 n1 c1 t1 []);have HL := Lib.hid h;have HE := Lib.hid hE;have HBS := Lib.hid hbs;have HG := Lib.hid hg;have HL4 := Lib.hid hl4;obtain ⟨n, hn⟩ : ∃ n, es.length = n := ⟨_, rfl⟩
  have HN := Lib.hid hn;rw [hn] at hle ⊢;obtain ⟨hln, htx, dp⟩ := h.length;have hgd := h.good.1;have hmk : ∀ W, Below w.heap.size w W → Calls Tryz.prog 56 #[.string t1] W (GetsQ p W) := fun W hW => by rw [htx]; exact mustT dp (by omega) W (hE.far hW)
  have HMK := Lib.hid hmk;have HDP := Lib.hid dp;have HGD := Lib.hid hgd
  have hsl : ∃ g off cap, c1 = cap ∧ CSl w a1 g off cap cs := by
    obtain ⟨ao, g, off, cap, he, hc, -⟩ := h;injection he with he;injection he with he;injection he with _ he;injection he with he1 _;injection he1 with e1 e2 e3;subst e1 e3;exact ⟨g, off, _, rfl, hc⟩
  obtain ⟨g, off, cap, rfl, hc⟩ := hsl;have hle2 := hc.le;have hmost2 := hc.most;rw [← hln] at hle2;have HC := Lib.hid hc;have HLN := Lib.hid hln;have HLC : Hid (cs.length ≤ 4) := Lib.hid (can_len hgd.can hgd.nm);have HNM : Hid (∀ x ∈ cs, x.1 ∈ nm4) := Lib.hid hgd.nm;clear hmk htx dp hgd hc hln;clear m1 m2 m3 mb h hE hbs hg hn hl4
  go_enter Tryz.func93, Tryz.ntmps93
  go_wp2_with fail
  generalize ((w.alloc (.cells #[.int .i64 s, .slice a1 n1 c1, .string t1] 26)).alloc (.cells #[.int .i64 0, .bool false, .slice none 0 0, .int .i64 0, .bool false, .slice none 0 0] 85)).alloc (.map #[] 0) = w1 at *
  go_loopg [21] n (fun gh v21 wr => ∃ (i : Nat), gh = n - i ∧ i ≤ n ∧ v21 = .int .i64 i ∧ EB w wr s a1 n1 c1 t1 (mapV s (es.take i)))
  case atStart => exact ⟨0, rfl, Nat.zero_le _, rfl, HEB.out⟩
  case round =>
    obtain ⟨i, rfl, hi, rfl, hb⟩ := hrel;have HB1 := Lib.hid hb;clear hb HEB;have hi0 : (0 : Int) ≤ (i : Int) := by omega
    by_cases hlt : i < n
    · have hlt' : (i : Int) < (n : Int) := by omega
      have hl : i < es.length := by rw [HN.out]; exact hlt
      have had := HBS.out.ad (by omega);subst had;have hcl := fun c v hv => (HBS.out.far HB1.out.bel).cl i hl c v hv
      have hfn := env_new HG.out hl;have htk := @take_mapV s es i hl;unfold valV at htk;obtain ⟨tq, htq⟩ : ∃ t, TX es[i].2 = t := ⟨_, rfl⟩
      obtain ⟨tn, htn⟩ : ∃ t : ByteArray, (⟨es[i].1.toArray⟩ : ByteArray) = t := ⟨_, rfl⟩
      rw [htq, htn] at hcl htk;rw [htn] at hfn;have c0 := hcl 0 _ rfl;rw [Nat.add_zero, Nat.zero_add] at c0;have c1 := hcl 1 _ rfl;have c2 := hcl 2 _ rfl;have c3 := hcl 3 _ rfl;have c4 := hcl 4 _ rfl;have c5 := hcl 5 _ rfl;rw [Nat.zero_add] at c1 c2 c3 c4 c5;have HFN := Lib.hid hfn;have HTK := Lib.hid htk;clear hcl hl htq htn hfn htk;obtain ⟨m1, m2, mb⟩ := newL2 wr (.cells #[.string tn, .int .i64 s, .bool false, .string tq, .slice none 0 0, .slice none 0 0] 65) (.cells #[.int .i64 0, .bool false, .string ⟨#[]⟩, .slice none 0 0, .slice none 0 0] 63);have HM1 := Lib.hid m1;have HMB := Lib.hid mb;clear m1 m2 mb
      go_wp2_with (first | (at_lookup; go_loud (refine wpList_look_miss rfl 9 63 143 _ _ rfl Tryz.underlying9 Tryz.underlying143 (w.heap.size + 1 + 1) _ rfl (HB1.out.m.far (alloc_far _ _)) tn rfl _ HFN.out (zeroVal _) ?_)) | (at_mapUpdate; go_loud (refine wpList_put_miss rfl 9 63 143 _ _ _ rfl Tryz.underlying9 Tryz.underlying143 (w.heap.size + 1 + 1) _ rfl (HB1.out.m.far HMB.out) tn rfl (.agg #[.int .i64 s, .bool false, .string tq, .slice none 0 0, .slice none 0 0]) rfl HFN.out ?_)))
      intro w2 hm hgr;rw [← HTK.out] at hm;have HEB2 := Lib.hid ((HB1.out.far HMB.out).put hm hgr);clear hm hgr c0 c1 c2 c3 c4 c5
      go_wp2_with fail
      go_roundg (n - (i + 1))
      case rel => exact ⟨i + 1, rfl, by omega, by go_num, HEB2.out⟩
      case measure => omega
    · obtain rfl : i = n := by omega
      have hlt' : ¬ ((i : Int) < (i : Int)) := by omega
      have hall : es.take i = es := by rw [← HN.out]; exact List.take_length
      rw [hall] at HB1;clear hall;have p0 := heap_cell HB1.out.a 0;have p1 := heap_cell HB1.out.a 1;have p2 := heap_cell HB1.out.a 2;have hla := lt_of_heap HB1.out.a
      go_wp2_with fail
      refine (HMK.out _ HB1.out.bel).mono ?_;rintro e w2 ⟨v2, rfl, hv, hb⟩;have HB2 := Lib.hid (HB1.out.far hb);obtain ⟨s3, b3, ao3, n3, c3, s4, b4, ao4, n4, c4, rfl, -, -⟩ := rv_form hv;have HV2 := Lib.hid hv;clear hv hb p0 p1 p2 hla HB1;have p0 := heap_cell HB2.out.a 0;have p1 := heap_cell HB2.out.a 1;have p2 := heap_cell HB2.out.a 2;have hla := lt_of_heap HB2.out.a;have hal := alloc_far w2 (.cells #[.int .i64 s3, .bool b3, .slice ao3 n3 c3, .int .i64 s4, .bool b4, .slice ao4 n4 c4] 85);have HES := Lib.hid (⟨HB2.out.far hal, heap_alloc_new _ _, HV2.out.far hal, HB2.out.m.lt⟩ : ES w (w2.alloc (.cells #[.int .i64 s3, .bool b3, .slice ao3 n3 c3, .int .i64 s4, .bool b4, .slice ao4 n4 c4] 85)) s a1 n1 c1 t1 (mapV s es) w2.heap.size (.int .i64 s3) (.bool b3) (.slice ao3 n3 c3) (.int .i64 s4) (.bool b4) (.slice ao4 n4 c4) (evS p (cs.take 0) (cof es)));clear hal HV2;obtain ⟨k, hk⟩ : ∃ k, cs.length = k := ⟨_, rfl⟩
      have HK := Lib.hid hk;obtain rfl : n1 = k := HLN.out.trans hk;clear hk
      go_wp2_with fail
      generalize w2.alloc (.cells #[.int .i64 s3, .bool b3, .slice ao3 n3 c3, .int .i64 s4, .bool b4, .slice ao4 n4 c4] 85) = w5 at *;generalize w2.heap.size = S at *;clear p0 p1 p2 hla HB2
      go_loopg [46] n1 (fun gh v46 wr => ∃ (j : Nat) (y0 y1 y2 y3 y4 y5 : Value), gh = n1 - j ∧ j ≤ n1 ∧ v46 = .int .i64 j ∧ ES w wr s a1 n1 c1 t1 (mapV s es) S y0 y1 y2 y3 y4 y5 (evS p (cs.take j) (cof es)))
      case atStart => exact ⟨0, _, _, _, _, _, _, rfl, Nat.zero_le _, rfl, HES.out⟩
      case round =>
        obtain ⟨j, y0, y1, y2, y3, y4, y5, rfl, hj, rfl, hes⟩ := hrel;have HE2 := Lib.hid hes;clear hes HES;have hj0 : (0 : Int) ≤ (j : Int) := by omega
        by_cases hlt2 : j < n1
        · have hlt3 : (j : Int) < (n1 : Int) := by omega
          have hl : j < cs.length := by rw [HK.out]; exact hlt2
          have had := HC.out.ad (by omega);subst had;have c0 := (HC.out.far HE2.out.eb.bel).nm j hl;have c1' := (HC.out.far HE2.out.eb.bel).nu j hl;have dk1 := HGD.out.ds _ (List.getElem_mem hl);have dk2 := env_ds HG.out cs[j].1;obtain ⟨jf, hjf⟩ := @findS_cof s cs[j].1 es 0 (by rw [HG.out.nm]; exact HNM.out _ (List.getElem_mem hl));have hsn := @evS_snoc p cs (cof es) j hl
          have dq1 : DS 2400 (evS p (cs.take j) (cof es)) := (evS_ds (env_ds HG.out) (cs.take j) d p HDP.out (fun x hx => HGD.out.ds x (List.mem_of_mem_take hx))).mono (by
            have h4 := HLC.out;have h5 : (cs.take j).length ≤ 4 := by rw [List.length_take]; omega
            have h6 : (cs.take j).length * (d + 27) ≤ 4 * (d + 27) := Nat.mul_le_mul_right _ h5
            omega)
          generalize evS p (cs.take j) (cof es) = q1 at *;generalize cs[j].2 = k1 at *;generalize cof es cs[j].1 = k2 at *;obtain ⟨q2, hq2⟩ : ∃ q2, q1 + k1 * k2 = q2 := ⟨_, rfl⟩
          have hmu : ∀ W u v, RV W u k1 → RV W v k2 → Calls Tryz.prog 62 #[u, v] W (GetsQ (k1 * k2) W) := fun W u v hu hv => ratMul_any _ _ k1 k2 W hu hv (ds_rs (k := 50) dk1 (by omega)) (ds_rs (k := 50) dk2 (by omega)) (by omega)
          have had : ∀ W u v, RV W u q1 → RV W v (k1 * k2) → Calls Tryz.prog 95 #[u, v] W (GetsQ (q1 + k1 * k2) W) := fun W u v hu hv => ratAdd_ok _ _ q1 (k1 * k2) W hu hv (ds_rs (k := 300) dq1 (by omega)) (ds_rs (k := 50) (dk1.mul dk2) (by omega)) (by omega)
          have hm1 : ∀ W, Below w.heap.size w W → Calls Tryz.prog 56 #[.string (TX k1)] W (GetsQ k1 W) := fun W hW => mustT dk1 (by omega) W (HE.out.far hW)
          have hm2 : ∀ W, Below w.heap.size w W → Calls Tryz.prog 56 #[.string (TX k2)] W (GetsQ k2 W) := fun W hW => mustT dk2 (by omega) W (HE.out.far hW)
          rw [hq2] at had hsn;unfold valV at hjf;obtain ⟨tq, htq⟩ : ∃ t, TX k1 = t := ⟨_, rfl⟩
          obtain ⟨tv, htv⟩ : ∃ t, TX k2 = t := ⟨_, rfl⟩
          obtain ⟨tn, htn⟩ : ∃ t : ByteArray, (⟨cs[j].1.toArray⟩ : ByteArray) = t := ⟨_, rfl⟩
          rw [htq] at hm1 c1';rw [htv] at hm2 hjf;rw [htn] at c0 hjf;have HSN := Lib.hid hsn;have HMU := Lib.hid hmu;have HAD := Lib.hid had;have HM1 := Lib.hid hm1;have HM2 := Lib.hid hm2;have HJF := Lib.hid hjf;clear hmu had hm1 hm2 hjf htq htv htn hq2 dq1 dk1 dk2 hsn hl;obtain ⟨m1, m2, mb⟩ := newL2 wr (.cells #[.string tn, .string tq] 79) (.cells #[.int .i64 s, .bool false, .string tv, .slice none 0 0, .slice none 0 0] 63);have HN1 := Lib.hid m1;have HN2 := Lib.hid m2;have HES3 := Lib.hid (HE2.out.far mb);clear m1 m2 mb;have p0 := heap_cell HE2.out.eb.a 0;have hla := lt_of_heap HE2.out.eb.a
          go_wp2_with (at_lookup; go_loud (refine wpList_look_hit rfl 9 63 143 _ _ rfl Tryz.underlying9 Tryz.underlying143 (w.heap.size + 1 + 1) _ rfl (HE2.out.eb.m.far (alloc_far _ _)) tn rfl jf (.agg #[.int .i64 s, .bool false, .string tv, .slice none 0 0, .slice none 0 0]) HJF.out ?_))
          generalize (wr.alloc (.cells #[.string tn, .string tq] 79)).alloc (.cells #[.int .i64 s, .bool false, .string tv, .slice none 0 0, .slice none 0 0] 63) = w6 at *;clear p0 hla c0 c1';obtain ⟨s3, b3, ao3, n3, c3, s4, b4, ao4, n4, c4, hy, -, -⟩ := rv_form HES3.out.vs;injection hy with hy;injection hy with hy;injection hy with e0 hy;injection hy with e1 hy;injection hy with e2 hy;injection hy with e3 hy;injection hy with e4 hy;injection hy with e5 hy;subst e0 e1 e2 e3 e4 e5;clear hy;generalize wr.heap.size + 1 = N2 at *;generalize wr.heap.size = N1 at *;refine add_region [[], [], [1], [1, 2], [], [4], [1, 2, 3, 4, 5], [1, 2, 3, 4, 5, 6], [0, 1, 2, 3, 4, 5, 6, 7], [0, 1, 2, 3, 4, 5, 6, 7, 8]] (fun W => ES w W s (some ⟨g, off, none⟩) n1 c1 t1 (mapV s es) S (.int .i64 s3) (.bool b3) (.slice ao3 n3 c3) (.int .i64 s4) (.bool b4) (.slice ao4 n4 c4) q1 ∧ W.heap[N1]? = some (.cells #[.string tn, .string tq] 79 (0, 0)) ∧ W.heap[N2]? = some (.cells #[.int .i64 s, .bool false, .string tv, .slice none 0 0, .slice none 0 0] 63 (0, 0))) (fun _ => True) ?_
          iterate 3
            apply a_con
            · intro x; go_simp; done
            · intro x W R hW hF hR;have p0 := heap_cell hW.1.hs 0;have p1 := heap_cell hW.1.hs 1;have p2 := heap_cell hW.1.hs 2;have p3 := heap_cell hW.1.hs 3;have p4 := heap_cell hW.1.hs 4;have p5 := heap_cell hW.1.hs 5;have q1 := heap_cell hW.2.1 1;have q2 := heap_cell hW.2.2 2;clear hF;unfold addAt
              go_simp
              simp only [addUpon];exact hR _ (Below.refl _ _)
            simp only [Act.put, List.setIfInBounds_toArray, List.set_cons_zero, List.set_cons_succ]
          refine a_opq (fun v W => RV W v (k1)) (fun _ _ _ h hb => h.far hb) ?_ ?_ ?_
          · intro x; go_simp; done
          · intro x W R hW hF hR;clear hF;unfold addAt
            go_simp
            simp only [addUpon];refine (HM1.out W hW.1.eb.bel).mono ?_;rintro e w' ⟨v, rfl, hv, hb⟩;exact ⟨v, rfl, hR _ _ hv hb⟩
          simp only [Act.put, List.setIfInBounds_toArray, List.set_cons_zero, List.set_cons_succ, List.length_cons, List.length_nil, Nat.zero_add, Nat.reduceAdd]
          iterate 2
            apply a_con
            · intro x; go_simp; done
            · intro x W R hW hF hR;have p0 := heap_cell hW.1.hs 0;have p1 := heap_cell hW.1.hs 1;have p2 := heap_cell hW.1.hs 2;have p3 := heap_cell hW.1.hs 3;have p4 := heap_cell hW.1.hs 4;have p5 := heap_cell hW.1.hs 5;have q1 := heap_cell hW.2.1 1;have q2 := heap_cell hW.2.2 2;clear hF;unfold addAt
              go_simp
              simp only [addUpon];exact hR _ (Below.refl _ _)
            simp only [Act.put, List.setIfInBounds_toArray, List.set_cons_zero, List.set_cons_succ]
          refine a_opq (fun v W => RV W v (k2)) (fun _ _ _ h hb => h.far hb) ?_ ?_ ?_
          · intro x; go_simp; done
          · intro x W R hW hF hR;clear hF;unfold addAt
            go_simp
            simp only [addUpon];refine (HM2.out W hW.1.eb.bel).mono ?_;rintro e w' ⟨v, rfl, hv, hb⟩;exact ⟨v, rfl, hR _ _ hv hb⟩
          simp only [Act.put, List.setIfInBounds_toArray, List.set_cons_zero, List.set_cons_succ, List.length_cons, List.length_nil, Nat.zero_add, Nat.reduceAdd];refine a_opq (fun v W => RV W v (k1 * k2)) (fun _ _ _ h hb => h.far hb) ?_ ?_ ?_
          · intro x; go_simp; done
          · intro x W R hW hF hR;have hv2 := hF.1.2 rfl rfl rfl;simp only [AK.fact] at hv2;have hv1 := hF.2.2.2.1.2 rfl rfl rfl;simp only [AK.fact] at hv1;clear hF;unfold addAt
            go_simp
            simp only [addUpon];refine (HMU.out W _ _ hv1 hv2).mono ?_;rintro e w' ⟨v, rfl, hv, hb⟩;exact ⟨v, rfl, hR _ _ hv hb⟩
          simp only [Act.put, List.setIfInBounds_toArray, List.set_cons_zero, List.set_cons_succ, List.length_cons, List.length_nil, Nat.zero_add, Nat.reduceAdd];refine a_opq (fun v W => RV W v (q2)) (fun _ _ _ h hb => h.far hb) ?_ ?_ ?_
          · intro x; go_simp; done
          · intro x W R hW hF hR;have hu := hF.1.2 rfl rfl rfl;simp only [AK.fact] at hu;clear hF;unfold addAt
            go_simp
            simp only [addUpon];refine (HAD.out W _ _ hW.1.vs hu).mono ?_;rintro e w' ⟨v, rfl, hv, hb⟩;exact ⟨v, rfl, hR _ _ hv hb⟩
          simp only [Act.put, List.setIfInBounds_toArray, List.set_cons_zero, List.set_cons_succ, List.length_cons, List.length_nil, Nat.zero_add, Nat.reduceAdd];refine a_wrt (fun _ W => ∃ z0 z1 z2 z3 z4 z5, ES w W s (some ⟨g, off, none⟩) n1 c1 t1 (mapV s es) S z0 z1 z2 z3 z4 z5 q2) (fun _ _ _ h hb => let ⟨z0, z1, z2, z3, z4, z5, h⟩ := h; ⟨z0, z1, z2, z3, z4, z5, h.far hb⟩) (fun _ _ _ _ h => h) ?_ ?_ ?_
          · intro x; go_simp; done
          · intro x W R hW hF hD hR;have hu := hF.1.2 rfl rfl rfl;simp only [AK.fact] at hu;obtain ⟨s1', b1', a1', n1', c1', s2', b2', a2', n2', c2', hx, -, -⟩ := rv_form hu;rw [hx] at hu;simp only [hx];have e0 := heap_cell hW.1.hs 0;have e1 := heap_cell hW.1.hs 1;have e2 := heap_cell hW.1.hs 2;have e3 := heap_cell hW.1.hs 3;have e4 := heap_cell hW.1.hs 4;have e5 := heap_cell hW.1.hs 5;have fr := fun i => heap_fz hW.1.hs i
            clear hF hD;unfold addAt
            go_simp
            simp only [addUpon];exact hR _ _ ⟨_, _, _, _, _, _, hW.1.put hu⟩ trivial (by simp [World.setCell])
          simp only [Act.put];refine a_nil (by kernel_rfl) (by kernel_rfl) (by kernel_rfl) (fun _ _ h hb => ⟨h.1.far hb, (hb.block _ (lt_of_heap h.2.1)).trans h.2.1, (hb.block _ (lt_of_heap h.2.2)).trans h.2.2⟩) (fun _ _ _ _ => trivial) (fun _ _ => trivial) (⟨HES3.out.far (Below.refl _ _).drew, HN1.out, HN2.out⟩) ?_;intro x W hE hW hF hD;clear hD;obtain ⟨z0, z1, z2, z3, z4, z5, hes⟩ := hF.1.2 rfl;have HE4 := Lib.hid hes;clear hF hW hes
          go_wp2_with fail
          go_roundg (n1 - (j + 1))
          case rel => exact ⟨j + 1, z0, z1, z2, z3, z4, z5, rfl, by omega, by go_num, by rw [HSN.out]; exact HE4.out⟩
          case measure => omega
        · obtain rfl : j = n1 := by omega
          have hlt3 : ¬ ((j : Int) < (j : Int)) := by omega
          have hall : cs.take j = cs := by rw [← HK.out]; exact List.take_length
          rw [hall] at HE2;clear hall;obtain ⟨s3, b3, ao3, n3, c3, s4, b4, ao4, n4, c4, hy, -, -⟩ := rv_form HE2.out.vs;injection hy with hy;injection hy with hy;injection hy with e0 hy;injection hy with e1 hy;injection hy with e2 hy;injection hy with e3 hy;injection hy with e4 hy;injection hy with e5 hy;subst e0 e1 e2 e3 e4 e5;clear hy;have k0 := heap_cell HE2.out.hs 0;have k1 := heap_cell HE2.out.hs 1;have k2 := heap_cell HE2.out.hs 2;have k3 := heap_cell HE2.out.hs 3;have k4 := heap_cell HE2.out.hs 4;have k5 := heap_cell HE2.out.hs 5;have r0 := heap_cell HE2.out.eb.r 0;have r1 := heap_cell HE2.out.eb.r 1;have r2 := heap_cell HE2.out.eb.r 2;have r3 := heap_cell HE2.out.eb.r 3;have r4 := heap_cell HE2.out.eb.r 4;have r5 := heap_cell HE2.out.eb.r 5;have fr := fun i => heap_fz HE2.out.eb.r i
          go_wp2_with fail
          exact end_ri rfl rfl rfl rfl (set6_heap HE2.out.eb.r _ _ _ _ _ _) ⟨_, rfl, HE2.out.vs.but HE2.out.eb.r (by decide) (fun g hg => set6_other hg _ _ _ _ _ _), set6_below HE2.out.eb.bel (by omega) _ _ _ _ _ _⟩
end
end Go.Proofs.YteoklapcifonaaaGreatDoor

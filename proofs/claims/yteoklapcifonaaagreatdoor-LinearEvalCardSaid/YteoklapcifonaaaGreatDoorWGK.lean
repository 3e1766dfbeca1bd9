/- The reference: values and environments are valid; EvalLinear, HoldsConstraint in any environment. -/
import Derived.Test.YteoklapcifonaaaGreatDoorWGH
import Derived.Test.YteoklapcifonaaaGreatDoorWTF
namespace Go.Proofs.YteoklapcifonaaaGreatDoor
open Go.RowKit Nmx

section
set_option maxRecDepth 100000
set_option maxHeartbeats 8000000
theorem refValG {D : Nat} {x : Int × Rat} (hD : D ≤ 3000) (hq : EntOk D x) (w : World) :
    Calls Tryz.prog 144 #[.agg #[.int .i64 x.1, .bool false, .string (txE x), .slice none 0 0, .slice none 0 0]] w fun e w' => e = .returned (.bool true) ∧ Below w.heap.size w w' := by
  obtain ⟨s, q⟩ := x;rcases hq with h | ⟨hs, hq, hden⟩
  · obtain rfl : s = 1 := h;show Calls Tryz.prog 144 #[.agg #[.int .i64 1, .bool false, .string ⟨#[]⟩, .slice none 0 0, .slice none 0 0]] w fun e w' => e = .returned (.bool true) ∧ Below w.heap.size w w'
    have HB := Lib.hid (alloc_far w (.cells #[.int .i64 1, .bool false, .string ⟨#[]⟩, .slice none 0 0, .slice none 0 0] 63))
    go_enter Tryz.func144, Tryz.ntmps144
    go_wp2_with fail
    go_ret
    exact ⟨rfl, HB.out⟩
  · rw [show txE (s, q) = TX q from txE_num hs]
    dsimp only
    have hii := fun W => refIsIntT hq (by omega) W
    have hva := fun W => refValidT hq (by omega) W
    have hdd : s = 2 → decide (q.den = 1) = true := fun h => decide_eq_true (hden h)
    generalize TX q = tq at *;have HB := Lib.hid (alloc_far w (.cells #[.int .i64 s, .bool false, .string tq, .slice none 0 0, .slice none 0 0] 63));have HII := Lib.hid hii;have HVA := Lib.hid hva;clear hii hva hq hden;rcases hs with rfl | rfl
    · have HD := Lib.hid (hdd rfl);clear hdd
      go_enter Tryz.func144, Tryz.ntmps144
      go_wp2_with fail
      refine (HII.out _).mono ?_;rintro e w1 ⟨rfl, hb⟩;rw [HD.out];replace HB := Lib.hid (HB.out.trans (hb.mono HB.out.size));clear hb
      go_wp2
      go_ret
      exact ⟨rfl, HB.out⟩
    · clear hdd
      go_enter Tryz.func144, Tryz.ntmps144
      go_wp2_with fail
      refine (HVA.out _).mono ?_;rintro e w1 ⟨rfl, hb⟩;replace HB := Lib.hid (HB.out.trans (hb.mono HB.out.size));clear hb
      go_wp2
      go_ret
      exact ⟨rfl, HB.out⟩
theorem refValidEnvG {D : Nat} {es : List (List UInt8 × Int × Rat)} {v : Value} (hD : D ≤ 3000) (w : World) (h : EG w v D es) :
    Calls Tryz.prog 96 #[v] w fun e w' => e = .returned (.bool true) ∧ Below w.heap.size w w' := by
  obtain ⟨ao, g, off, cap, rfl, h, hq⟩ := h;have hle := h.le;have hmost := h.most;have HH := Lib.hid h;have HQ := Lib.hid hq;obtain ⟨n, hn⟩ : ∃ n, es.length = n := ⟨_, rfl⟩
  have HN := Lib.hid hn;rw [hn] at hle ⊢;clear hn h hq
  go_enter Tryz.func96, Tryz.ntmps96
  go_wp2_with fail
  go_loopg [3] n (fun gh v3 wr => ∃ (i : Nat), gh = n - i ∧ i ≤ n ∧ v3 = .int .i64 i ∧ Below w.heap.size w wr)
  case atStart => exact ⟨0, rfl, Nat.zero_le _, rfl, Below.refl _ _⟩
  case round =>
    obtain ⟨i, rfl, hi, rfl, hb⟩ := hrel;have HB := Lib.hid hb;clear hb;have hi0 : (0 : Int) ≤ (i : Int) := by omega
    by_cases hlt : i < n
    · have hlt' : (i : Int) < (n : Int) := by omega
      have hl : i < es.length := by rw [HN.out]; exact hlt
      have had := HH.out.ad (by omega);subst had;have hcl := fun c v hv => (HH.out.far HB.out).cl i hl c v hv
      have hvf := fun W => refValG hD (HQ.out _ (List.getElem_mem hl)) W
      generalize txE es[i].2 = tq at *;generalize es[i].2.1 = sv at *;generalize (⟨es[i].1.toArray⟩ : ByteArray) = tn at *;have c1 := hcl 1 _ rfl;have c2 := hcl 2 _ rfl;have c3 := hcl 3 _ rfl;have c4 := hcl 4 _ rfl;have c5 := hcl 5 _ rfl;have HVF := Lib.hid hvf;clear hvf hcl hl
      go_wp2_with fail
      refine (HVF.out _).mono ?_;rintro e w1 ⟨rfl, hb⟩;have HB1 := Lib.hid (HB.out.trans (hb.mono HB.out.size));clear hb c1 c2 c3 c4 c5
      go_wp2_with fail
      go_roundg (n - (i + 1))
      case rel => exact ⟨i + 1, rfl, by omega, by go_num, HB1.out⟩
      case measure => omega
    · have hlt' : ¬ ((i : Int) < (n : Int)) := by omega
      go_wp2
      go_ret
      exact ⟨rfl, HB.out⟩
/-- what an inner loop knows: the first binding of a name from index k on -/
def FstAt (es : List (List UInt8 × Int × Rat)) (n : List UInt8) (k : Nat) (a : Int) : Prop :=
  (a = -1 ∧ lkE (es.drop k) n = none) ∨ ∃ j : Nat, ∃ h : j < es.length, a = j ∧ es[j].1 = n ∧ lkE (es.drop k) n = some es[j].2
theorem fstAt_end (es : List (List UInt8 × Int × Rat)) (n : List UInt8) : FstAt es n es.length (-1) := .inl ⟨rfl, by rw [List.drop_length]; rfl⟩
theorem fstAt_yes {es : List (List UInt8 × Int × Rat)} {n : List UInt8} {k : Nat} (hk : k < es.length) (he : es[k].1 = n) : FstAt es n k k :=
  .inr ⟨k, hk, rfl, he, by rw [List.drop_eq_getElem_cons hk]; exact if_pos he⟩
theorem fstAt_no {es : List (List UInt8 × Int × Rat)} {n : List UInt8} {k : Nat} {a : Int} (hk : k < es.length) (he : es[k].1 ≠ n) (h : FstAt es n (k + 1) a) : FstAt es n k a := by
  have e : lkE (es.drop k) n = lkE (es.drop (k + 1)) n := by rw [List.drop_eq_getElem_cons hk]; exact if_neg he
  unfold FstAt;rw [e];exact h
theorem refEvalG {d D : Nat} {w : World} {s : Int} {a1 : Option Addr} {n1 c1 : Nat} {t1 : ByteArray} {p : Rat} {cs : List (List UInt8 × Rat)} {ve : Value} {es : List (List UInt8 × Int × Rat)} (h : LV w (.agg #[.int .i64 s, .slice a1 n1 c1, .string t1]) s d p cs) (he : EG w ve D es) (hs : s = 2 ∨ s = 3) (hd : d ≤ 100) (hD : D ≤ 300) :
    Calls Tryz.prog 43 #[.agg #[.int .i64 s, .slice a1 n1 c1, .string t1], ve] w fun e w' => e = .returned (.tuple #[.string (evT (evG s (lkE es) p cs)), .int .i64 (evG s (lkE es) p cs).1]) ∧ Below w.heap.size w w' := by
  have hvl := fun W (hW : Below w.heap.size w W) => refValidL (h.far hW) hs (by omega)
  have hve := fun W (hW : Below w.heap.size w W) => refValidEnvG (by omega) W (he.far hW)
  have hfo : ∀ n y, lkE es n = some y → EntOk D y := fun n y => lkE_ok he.ok
  obtain ⟨Ec, Eq, hEE⟩ : ∃ a b, evG s (lkE es) p cs = (a, b) := ⟨_, _, rfl⟩
  rw [hEE];obtain ⟨tr, htr⟩ : ∃ t, evT (Ec, Eq) = t := ⟨_, rfl⟩
  rw [htr]
  dsimp only
  obtain ⟨ae, ge, offe, ce, rfl, hbs, -⟩ := he;have hle := hbs.le;have hmost := hbs.most;obtain ⟨hln, htx, dp⟩ := h.length;have hgd := h.good.1
  have hsl : ∃ g off cap, c1 = cap ∧ CSl w a1 g off cap cs := by
    obtain ⟨ao, g, off, cap, he, hc, -⟩ := h;injection he with he;injection he with he;injection he with _ he;injection he with he1 _;injection he1 with e1 e2 e3;subst e1 e3;exact ⟨g, off, _, rfl, hc⟩
  obtain ⟨g, off, cap, rfl, hc⟩ := hsl;have hle2 := hc.le;have hmost2 := hc.most;rw [← hln] at hle2;subst htx;have HC := Lib.hid hc;have HBS := Lib.hid hbs;have HLC : Hid (cs.length ≤ 4) := Lib.hid (can_len hgd.can hgd.nm);have HGD := Lib.hid hgd;have HDP := Lib.hid dp;have HVL := Lib.hid hvl;have HVE := Lib.hid hve;have HEE := Lib.hid hEE;have HFO := Lib.hid hfo;have HSS := Lib.hid hs;have HTR := Lib.hid htr;obtain ⟨ne, hne⟩ : ∃ n, es.length = n := ⟨_, rfl⟩
  have HNE := Lib.hid hne;rw [hne] at hle HVE ⊢;have HLN := Lib.hid hln;have hne2 : (ne : Int) ≤ 9223372036854775807 := by omega
  have HX := Lib.hid (⟨heap_alloc_new w _, alloc_far w _⟩ : (w.alloc (.cells #[.int .i64 s, .slice a1 n1 c1, .string (TX p)] 26)).heap[w.heap.size]? = some (.cells #[.int .i64 s, .slice a1 n1 c1, .string (TX p)] 26 (0, 0)) ∧ Below w.heap.size w (w.alloc (.cells #[.int .i64 s, .slice a1 n1 c1, .string (TX p)] 26)));clear hc hbs hgd dp hvl hve hEE hfo hs htr hne hln h;obtain ⟨tp, htp⟩ : ∃ t, TX p = t := ⟨_, rfl⟩
  have HTP := Lib.hid htp;rw [htp] at HX HVL ⊢;clear htp
  go_enter Tryz.func43, Tryz.ntmps43
  go_wp2_with fail
  generalize w.alloc (.cells #[.int .i64 s, .slice a1 n1 c1, .string tp] 26) = w1 at *;refine (HVL.out _ HX.out.2).mono ?_;rintro e w2 ⟨rfl, hb⟩;replace HX := Lib.hid (⟨(hb.block _ (lt_of_heap HX.out.1)).trans HX.out.1, HX.out.2.trans (hb.mono HX.out.2.size)⟩ : w2.heap[w.heap.size]? = some (.cells #[.int .i64 s, .slice a1 n1 c1, .string tp] 26 (0, 0)) ∧ Below w.heap.size w w2);clear hb
  go_wp2_with fail
  refine (HVE.out _ HX.out.2).mono ?_;rintro e w3 ⟨rfl, hb⟩;replace HX := Lib.hid (⟨(hb.block _ (lt_of_heap HX.out.1)).trans HX.out.1, HX.out.2.trans (hb.mono HX.out.2.size)⟩ : w3.heap[w.heap.size]? = some (.cells #[.int .i64 s, .slice a1 n1 c1, .string tp] 26 (0, 0)) ∧ Below w.heap.size w w3);clear hb HVL HVE;have p2 := heap_cell HX.out.1 2
  go_wp2_with fail
  clear p2
  go_loopg [6, 7] n1 (fun gh v6 v7 wr => ∃ (i : Nat) (q1 : Rat), gh = n1 - i ∧ i ≤ n1 ∧ v7 = .int .i64 i ∧ v6 = .string (TX q1) ∧ (wr.heap[w.heap.size]? = some (.cells #[.int .i64 s, .slice a1 n1 c1, .string tp] 26 (0, 0)) ∧ Below w.heap.size w wr) ∧ evG s (lkE es) q1 (cs.drop i) = (Ec, Eq) ∧ DS (d + i * (d + D + 1)) q1)
  case atStart => exact ⟨0, p, rfl, Nat.zero_le _, rfl, by rw [HTP.out], HX.out, HEE.out, by rw [Nat.zero_mul]; exact HDP.out⟩
  case round =>
    obtain ⟨i, q1, rfl, hi, rfl, rfl, hx, hev, dq0⟩ := hrel;replace HX := Lib.hid hx;have HEV := Lib.hid hev;have HDQ := Lib.hid dq0;clear hx hev dq0;have hi0 : (0 : Int) ≤ (i : Int) := by omega
    have p1 := heap_cell HX.out.1 1;have hla := lt_of_heap HX.out.1
    by_cases hlt : i < n1
    rotate_left
    · obtain rfl : i = n1 := by omega
      have hlt' : ¬ ((i : Int) < (i : Int)) := by omega
      have hall : cs.drop i = [] := List.drop_of_length_le (by rw [← HLN.out]; exact Nat.le_refl _);have hev := HEV.out;rw [hall] at hev;obtain ⟨rfl, rfl⟩ : 0 = Ec ∧ q1 = Eq := ⟨congrArg Prod.fst hev, congrArg Prod.snd hev⟩
      have htr : TX q1 = tr := by rw [← HTR.out]; rfl
      rw [htr];clear hall hev htr
      go_wp2
      go_ret2
      exact ⟨rfl, HX.out.2⟩
    have hlt' : (i : Int) < (n1 : Int) := by omega
    have hl : i < cs.length := by rw [← HLN.out]; exact hlt
    have had := HC.out.ad (by omega);subst had;obtain ⟨tc, htc⟩ : ∃ t : ByteArray, (⟨cs[i].1.toArray⟩ : ByteArray) = t := ⟨_, rfl⟩
    obtain ⟨tq, htq⟩ : ∃ t : ByteArray, TX cs[i].2 = t := ⟨_, rfl⟩
    have hst := @evG_step s (lkE es) q1 cs i hl;rw [HEV.out] at hst;have dk1 := HGD.out.ds _ (List.getElem_mem hl)
    have hcn : ∀ W, Below w.heap.size w W → W.cell? ⟨g, off + i * 2, none⟩ = some (.string tc) ∧ W.cell? ⟨g, off + i * 2 + 1, none⟩ = some (.string tq) := fun W hW => by
      rw [← htc, ← htq];exact ⟨(HC.out.far hW).nm i hl, (HC.out.far hW).nu i hl⟩
    obtain ⟨cn, hcn2⟩ : ∃ n, cs[i].1 = n := ⟨_, rfl⟩
    obtain ⟨k1, hk1⟩ : ∃ k, cs[i].2 = k := ⟨_, rfl⟩
    rw [hcn2] at htc hst;rw [hk1] at htq dk1 hst;have HTC := Lib.hid htc;have HTQ := Lib.hid htq;have HST := Lib.hid hst;have HDK := Lib.hid dk1;have HCN := Lib.hid hcn;clear htc htq hst dk1 hcn hcn2 hk1 hl
    go_wp2_with fail
    clear p1 hla
    go_loopg [8, 9] ne (fun gh v8 v9 wr => ∃ (k : Nat) (a : Int), gh = k ∧ k ≤ ne ∧ v9 = .int .i64 ((k : Int) - 1) ∧ v8 = .int .i64 a ∧ FstAt es cn k a ∧ (wr.heap[w.heap.size]? = some (.cells #[.int .i64 s, .slice (some ⟨g, off, none⟩) n1 c1, .string tp] 26 (0, 0)) ∧ Below w.heap.size w wr))
    case atStart => exact ⟨ne, -1, rfl, Nat.le_refl _, rfl, rfl, by rw [← HNE.out]; exact fstAt_end es cn, HX.out⟩
    case round =>
      obtain ⟨k, a, hgk, hk, rfl, rfl, hf, hx⟩ := hrel;obtain rfl := hgk.symm;replace HX := Lib.hid hx;have HF := Lib.hid hf;clear hx hf;cases k with
      | succ k =>
        rw [show ((k + 1 : Nat) : Int) - 1 = (k : Int) by omega];have hk0 : (0 : Int) ≤ (k : Int) := by omega
        have hk1 : (k : Int) < (ne : Int) := by omega
        have hkl : k < es.length := by rw [HNE.out]; omega
        have hae := HBS.out.ad (by omega);subst hae;obtain ⟨tn, htn⟩ : ∃ t : ByteArray, (⟨es[k].1.toArray⟩ : ByteArray) = t := ⟨_, rfl⟩
        have hen : ∀ W, Below w.heap.size w W → W.cell? ⟨ge, offe + k * 6, none⟩ = some (.string tn) := fun W hW => by
          rw [← htn];have := (HBS.out.far hW).cl k hkl 0 _ rfl;rw [Nat.add_zero] at this;exact this
        have HEN := Lib.hid hen
        by_cases he : es[k].1 = cn
        · have htt : (tn.toList == tc.toList) = true := by rw [← htn, ← HTC.out, he]; exact beq_self_eq_true _
          have HF2 := Lib.hid (fstAt_yes hkl he);clear he htn hen HF hkl
          go_wp2_with fail
          refine add_region [[], [], [0, 1], [0, 1, 2], [0, 1, 2, 3], [], [5], [], [5, 6, 7], [5, 6, 7, 8], [5, 6, 7, 8, 9], [0, 1, 2, 3, 4, 5, 6, 7, 8, 9, 10]] (fun W => W.heap[w.heap.size]? = some (.cells #[.int .i64 s, .slice (some ⟨g, off, none⟩) n1 c1, .string tp] 26 (0, 0)) ∧ Below w.heap.size w W) (fun _ => True) ?_
          iterate 12
            apply a_con
            · intro x; go_simp; done
            · intro x W R hW hF hR;have p0 := heap_cell hW.1 0;have p1 := heap_cell hW.1 1;have e0 := HEN.out W hW.2;have n0 := (HCN.out W hW.2).1;clear hF;unfold addAt
              go_simp
              simp only [addUpon];exact hR _ (Below.refl _ _)
            simp only [Act.put, List.setIfInBounds_toArray, List.set_cons_zero, List.set_cons_succ]
          refine a_nil (by kernel_rfl) (by kernel_rfl) (by kernel_rfl) (fun _ _ h hb => ⟨(hb.block _ (lt_of_heap h.1)).trans h.1, h.2.trans (hb.mono h.2.size)⟩) (fun _ _ _ _ => trivial) (fun _ _ => trivial) (⟨((Below.refl _ _).drew.block _ (lt_of_heap HX.out.1)).trans HX.out.1, HX.out.2.trans ((Below.refl _ _).drew.mono HX.out.2.size)⟩) ?_;intro x W hE hW hF hD;clear hD;replace HX := Lib.hid (hW rfl);clear hF hW hE
          go_wp2_with fail
          go_roundg k
          case rel => exact ⟨k, (k : Int), rfl, by omega, by go_num, rfl, HF2.out, HX.out⟩
          case measure => omega
        · have htt : (tn.toList == tc.toList) = false := by
            rw [beq_eq_false_iff_ne];intro e;refine he ?_;rw [← htn, ← HTC.out] at e
            simpa using e
          have HF2 := Lib.hid (fstAt_no hkl he HF.out);clear he htn hen HF hkl
          go_wp2_with fail
          refine add_region [[], [], [0, 1], [0, 1, 2], [0, 1, 2, 3], [], [5], [], [5, 6, 7], [5, 6, 7, 8], [5, 6, 7, 8, 9], [0, 1, 2, 3, 4, 5, 6, 7, 8, 9, 10]] (fun W => W.heap[w.heap.size]? = some (.cells #[.int .i64 s, .slice (some ⟨g, off, none⟩) n1 c1, .string tp] 26 (0, 0)) ∧ Below w.heap.size w W) (fun _ => True) ?_
          iterate 12
            apply a_con
            · intro x; go_simp; done
            · intro x W R hW hF hR;have p0 := heap_cell hW.1 0;have p1 := heap_cell hW.1 1;have e0 := HEN.out W hW.2;have n0 := (HCN.out W hW.2).1;clear hF;unfold addAt
              go_simp
              simp only [addUpon];exact hR _ (Below.refl _ _)
            simp only [Act.put, List.setIfInBounds_toArray, List.set_cons_zero, List.set_cons_succ]
          refine a_nil (by kernel_rfl) (by kernel_rfl) (by kernel_rfl) (fun _ _ h hb => ⟨(hb.block _ (lt_of_heap h.1)).trans h.1, h.2.trans (hb.mono h.2.size)⟩) (fun _ _ _ _ => trivial) (fun _ _ => trivial) (⟨((Below.refl _ _).drew.block _ (lt_of_heap HX.out.1)).trans HX.out.1, HX.out.2.trans ((Below.refl _ _).drew.mono HX.out.2.size)⟩) ?_;intro x W hE hW hF hD;clear hD;replace HX := Lib.hid (hW rfl);clear hF hW hE
          go_wp2_with fail
          go_roundg k
          case rel => exact ⟨k, a, rfl, by omega, by go_num, rfl, HF2.out, HX.out⟩
          case measure => omega
      | zero =>
        have hf := HF.out;clear HF;rcases hf with ⟨rfl, hn⟩ | ⟨j, hj, rfl, -, hn⟩
        · rw [List.drop_zero] at hn;have hst := HST.out;rw [hn] at hst;obtain ⟨rfl, rfl⟩ : Ec = 7 ∧ Eq = 0 := ⟨congrArg Prod.fst hst, congrArg Prod.snd hst⟩
          have htr : ⟨#[]⟩ = tr := HTR.out;subst htr;clear hst hn
          go_wp2_with fail
          go_ret2
          exact ⟨rfl, HX.out.2⟩
        · rw [List.drop_zero] at hn;have hst := HST.out;rw [hn] at hst;have hok := HFO.out _ _ hn;have hae := HBS.out.ad (by have := HNE.out; omega);subst hae;have hj0 : (0 : Int) ≤ (j : Int) := by omega
          have hj1 : (j : Int) < (ne : Int) := by have := HNE.out; omega
          obtain ⟨ty, hty⟩ : ∃ t : ByteArray, txE es[j].2 = t := ⟨_, rfl⟩
          obtain ⟨sy, hsy⟩ : ∃ t, es[j].2.1 = t := ⟨_, rfl⟩
          have hen : ∀ W, Below w.heap.size w W → W.cell? ⟨ge, offe + j * 6 + 1, none⟩ = some (.int .i64 sy) ∧ W.cell? ⟨ge, offe + j * 6 + 3, none⟩ = some (.string ty) := fun W hW => by
            rw [← hty, ← hsy];exact ⟨(HBS.out.far hW).cl j hj 1 _ rfl, (HBS.out.far hW).cl j hj 3 _ rfl⟩
          have HEN := Lib.hid hen;generalize es[j].2 = y at *;clear hen hn hj;have hst' : ((Ec, Eq) : Int × Rat) = if y.1 = s then evG s (lkE es) (q1 + k1 * y.2) (cs.drop (i + 1)) else (3, 0) := hst
          clear hst
          by_cases hys : y.1 = s
          · rw [if_pos hys] at hst'
            have dk2 : DS D y.2 := by
              rcases hok with h1 | ⟨-, h1, -⟩
              · have := HSS.out; omega
              · exact h1
            have hb1 : (sy != s) = false := by rw [← hsy, hys]; simp
            have hb2 : decide (sy = s) = true := decide_eq_true (by rw [← hsy]; exact hys);have hd2 : DS (d + (i + 1) * (d + D + 1)) (q1 + k1 * y.2) := (HDQ.out.add (HDK.out.mul dk2)).mono (by rw [Nat.add_mul]; omega)
            have dq1 : DS 1800 q1 := HDQ.out.mono (by
              have h4 := HLC.out;have h6 : i * (d + D + 1) ≤ 4 * (d + D + 1) := Nat.mul_le_mul_right _ (by have := HLN.out; omega)
              omega)
            have htxe : txE y = TX y.2 := by
              obtain ⟨y1, y2⟩ := y;exact txE_num (by have := HSS.out; rw [show y1 = s from hys]; exact this)
            rw [htxe] at hty
            have hmu : ∀ W, Calls Tryz.prog 81 #[.string tq, .string ty] W (GetsT (k1 * y.2) W) := fun W => by
              rw [← HTQ.out, ← hty];exact refMulT HDK.out dk2 (by omega) (by omega) W
            have had : ∀ W, Calls Tryz.prog 85 #[.string (TX q1), .string (TX (k1 * y.2))] W (GetsT (q1 + k1 * y.2) W) := fun W => refAddT dq1 (HDK.out.mul dk2) (by omega) (by omega) W
            have HST2 := Lib.hid hst'.symm;have HD2 := Lib.hid hd2;have HMU := Lib.hid hmu;have HAD := Lib.hid had;obtain ⟨q2, hq2⟩ : ∃ q, q1 + k1 * y.2 = q := ⟨_, rfl⟩
            rw [hq2] at HST2 HD2 HAD;unfold GetsT at HMU HAD;obtain ⟨tm, htm⟩ : ∃ t, TX (k1 * y.2) = t := ⟨_, rfl⟩
            rw [htm] at HMU HAD;clear hst' hd2 hmu had hok dk2 dq1 htxe hys hty hsy hq2 htm
            go_upto_region 15 with fail
            refine add_region [[], [], [0, 1], [0, 1, 2], [0, 1, 2, 3], [0, 1, 2, 3, 4], [], [6], [0, 1, 2, 3, 4, 5, 6, 7], [0, 1, 2, 3, 4, 5, 6, 7, 8]] (fun W => W.heap[w.heap.size]? = some (.cells #[.int .i64 s, .slice (some ⟨g, off, none⟩) n1 c1, .string tp] 26 (0, 0)) ∧ Below w.heap.size w W) (fun _ => True) ?_
            iterate 10
              apply a_con
              · intro x; go_simp; done
              · intro x W R hW hF hR;have p0 := heap_cell hW.1 0;have e1 := (HEN.out W hW.2).1;clear hF;unfold addAt
                go_simp
                simp only [addUpon];exact hR _ (Below.refl _ _)
              simp only [Act.put, List.setIfInBounds_toArray, List.set_cons_zero, List.set_cons_succ]
            refine a_nil (by kernel_rfl) (by kernel_rfl) (by kernel_rfl) (fun _ _ h hb => ⟨(hb.block _ (lt_of_heap h.1)).trans h.1, h.2.trans (hb.mono h.2.size)⟩) (fun _ _ _ _ => trivial) (fun _ _ => trivial) (⟨((Below.refl _ _).drew.block _ (lt_of_heap HX.out.1)).trans HX.out.1, HX.out.2.trans ((Below.refl _ _).drew.mono HX.out.2.size)⟩) ?_;intro x W hE hW hF hD;clear hD;replace HX := Lib.hid (hW rfl);clear hF hW hE
            go_wp2_with fail
            refine add_region [[], [], [1], [], [1, 2, 3], [1, 2, 3, 4], [1, 2, 3, 4, 5], [], [], [7, 8], [7, 8, 9], [7, 8, 9, 10], [7, 8, 9, 10, 11], [1, 2, 3, 4, 5, 6, 7, 8, 9, 10, 11, 12], [0, 1, 2, 3, 4, 5, 6, 7, 8, 9, 10, 11, 12, 13], [0, 1, 2, 3, 4, 5, 6, 7, 8, 9, 10, 11, 12, 13, 14]] (fun W => W.heap[w.heap.size]? = some (.cells #[.int .i64 s, .slice (some ⟨g, off, none⟩) n1 c1, .string tp] 26 (0, 0)) ∧ Below w.heap.size w W) (fun _ => True) ?_
            iterate 13
              apply a_con
              · intro x; go_simp; done
              · intro x W R hW hF hR;have p1 := heap_cell hW.1 1;have e2 := (HEN.out W hW.2).2;have n1 := (HCN.out W hW.2).2;clear hF;unfold addAt
                go_simp
                simp only [addUpon];exact hR _ (Below.refl _ _)
              simp only [Act.put, List.setIfInBounds_toArray, List.set_cons_zero, List.set_cons_succ]
            apply a_con
            · intro x; go_simp; done
            · intro x W R hW hF hR;clear hF;unfold addAt
              go_simp
              simp only [addUpon];refine (HMU.out W).mono ?_;rintro e w' ⟨rfl, hb⟩;exact ⟨_, rfl, hR _ hb⟩
            simp only [Act.put, List.setIfInBounds_toArray, List.set_cons_zero, List.set_cons_succ];apply a_con
            · intro x; go_simp; done
            · intro x W R hW hF hR;clear hF;unfold addAt
              go_simp
              simp only [addUpon];refine (HAD.out W).mono ?_;rintro e w' ⟨rfl, hb⟩;exact ⟨_, rfl, hR _ hb⟩
            simp only [Act.put, List.setIfInBounds_toArray, List.set_cons_zero, List.set_cons_succ];apply a_con
            · intro x; go_simp; done
            · intro x W R hW hF hR;clear hF;unfold addAt
              go_simp
              simp only [addUpon];exact hR _ (Below.refl _ _)
            simp only [Act.put, List.setIfInBounds_toArray, List.set_cons_zero, List.set_cons_succ];refine a_nil (by kernel_rfl) (by kernel_rfl) (by kernel_rfl) (fun _ _ h hb => ⟨(hb.block _ (lt_of_heap h.1)).trans h.1, h.2.trans (hb.mono h.2.size)⟩) (fun _ _ _ _ => trivial) (fun _ _ => trivial) (⟨((Below.refl _ _).drew.block _ (lt_of_heap HX.out.1)).trans HX.out.1, HX.out.2.trans ((Below.refl _ _).drew.mono HX.out.2.size)⟩) ?_;intro x W hE hW hF hD;clear hD;replace HX := Lib.hid (hW rfl);clear hF hW hE
            go_wp2_with fail
            go_roundg (n1 - (i + 1))
            case rel => exact ⟨i + 1, q2, rfl, by omega, by go_num, rfl, HX.out, HST2.out, HD2.out⟩
            case measure => omega
          · rw [if_neg hys] at hst';obtain ⟨rfl, rfl⟩ : Ec = 3 ∧ Eq = 0 := ⟨congrArg Prod.fst hst', congrArg Prod.snd hst'⟩
            have htr : ⟨#[]⟩ = tr := HTR.out;subst htr;have hb1 : (sy != s) = true := by rw [bne_iff_ne, ← hsy]; exact hys
            have hb2 : decide (sy = s) = false := decide_eq_false (by rw [← hsy]; exact hys);clear hst' hok hys hty hsy
            go_upto_region 15 with fail
            refine add_region [[], [], [0, 1], [0, 1, 2], [0, 1, 2, 3], [0, 1, 2, 3, 4], [], [6], [0, 1, 2, 3, 4, 5, 6, 7], [0, 1, 2, 3, 4, 5, 6, 7, 8]] (fun W => W.heap[w.heap.size]? = some (.cells #[.int .i64 s, .slice (some ⟨g, off, none⟩) n1 c1, .string tp] 26 (0, 0)) ∧ Below w.heap.size w W) (fun _ => True) ?_
            iterate 10
              apply a_con
              · intro x; go_simp; done
              · intro x W R hW hF hR;have p0 := heap_cell hW.1 0;have e1 := (HEN.out W hW.2).1;clear hF;unfold addAt
                go_simp
                simp only [addUpon];exact hR _ (Below.refl _ _)
              simp only [Act.put, List.setIfInBounds_toArray, List.set_cons_zero, List.set_cons_succ]
            refine a_nil (by kernel_rfl) (by kernel_rfl) (by kernel_rfl) (fun _ _ h hb => ⟨(hb.block _ (lt_of_heap h.1)).trans h.1, h.2.trans (hb.mono h.2.size)⟩) (fun _ _ _ _ => trivial) (fun _ _ => trivial) (⟨((Below.refl _ _).drew.block _ (lt_of_heap HX.out.1)).trans HX.out.1, HX.out.2.trans ((Below.refl _ _).drew.mono HX.out.2.size)⟩) ?_;intro x W hE hW hF hD;clear hD;replace HX := Lib.hid (hW rfl);clear hF hW hE
            go_wp2_with fail
            go_ret2
            exact ⟨rfl, HX.out.2⟩
end
end Go.Proofs.YteoklapcifonaaaGreatDoor
/- The reference's HoldsConstraint in any environment. -/
namespace Go.Proofs.YteoklapcifonaaaGreatDoor
open Go.RowKit Nmx

section
set_option maxRecDepth 100000
set_option maxHeartbeats 8000000
theorem refHoldsG {d D : Nat} {w : World} {r s : Int} {a1 : Option Addr} {n1 c1 : Nat} {t1 : ByteArray} {p : Rat} {cs : List (List UInt8 × Rat)} {M : Option Int} {ve : Value} {es : List (List UInt8 × Int × Rat)} (h : LV w (.agg #[.int .i64 s, .slice a1 n1 c1, .string t1]) s d p cs) (hk : ConM r s d M) (he : EG w ve D es) (hd : d ≤ 100) (hD : D ≤ 300) :
    Calls Tryz.prog 45 #[.agg #[.int .i64 r, .int .i64 s, .slice a1 n1 c1, .string t1, .string (TXo M)], ve] w fun e w' => e = .returned (.tuple #[.bool (holdE r M (evG s (lkE es) p cs)), .int .i64 (evG s (lkE es) p cs).1]) ∧ Below w.heap.size w w' := by
  have hvl := fun W (hW : Below w.heap.size w W) => refValidC (h.far hW) hk (by omega)
  have hev := fun W (hW : Below w.heap.size w W) => refEvalG (h.far hW) (he.far hW) hk.sort hd hD
  have dx0 := evG_dx h he.ok hk.sort hd hD;obtain ⟨ec, x, hx⟩ : ∃ a b, evG s (lkE es) p cs = (a, b) := ⟨_, _, rfl⟩
  rw [hx] at dx0 ⊢
  replace hev : ∀ W, Below w.heap.size w W → Calls Tryz.prog 43 #[.agg #[.int .i64 s, .slice a1 n1 c1, .string t1], ve] W fun e w' => e = .returned (.tuple #[.string (if ec = 0 then TX x else ⟨#[]⟩), .int .i64 ec]) ∧ Below W.heap.size W w' := fun W hW => by
    have := hev W hW;rw [hx] at this;exact this
  have dx : DS 1800 x := dx0;clear dx0 hx h he;show Calls Tryz.prog 45 #[.agg #[.int .i64 r, .int .i64 s, .slice a1 n1 c1, .string t1, .string (TXo M)], ve] w fun e w' => e = .returned (.tuple #[.bool (if ec = 0 then holdF r M x else false), .int .i64 ec]) ∧ Below w.heap.size w w'
  obtain ⟨tm, htm⟩ : ∃ t, TXo M = t := ⟨_, rfl⟩
  rw [htm] at hvl ⊢;have HTM := Lib.hid htm;have HVL := Lib.hid hvl;have HBX := Lib.hid (⟨heap_alloc_new w _, alloc_far w _⟩ : HB w (w.alloc (.cells #[.int .i64 r, .int .i64 s, .slice a1 n1 c1, .string t1, .string tm] 39)) r s a1 n1 c1 t1 tm);clear htm hvl
  by_cases hec : ec = 0
  rotate_left
  · have hb1 : (ec != 0) = true := by rw [bne_iff_ne]; exact hec
    have hb2 : decide (ec = 0) = false := decide_eq_false hec;rw [if_neg hec] at hev ⊢;have HEV := Lib.hid hev;clear hev
    go_enter Tryz.func45, Tryz.ntmps45
    go_wp2_with fail
    generalize w.alloc (.cells #[.int .i64 r, .int .i64 s, .slice a1 n1 c1, .string t1, .string tm] 39) = w1 at *;refine (HVL.out _ HBX.out.bel).mono ?_;rintro e w2 ⟨rfl, hb⟩;replace HBX := Lib.hid (HBX.out.far hb);clear hb;have p1 := heap_cell HBX.out.a 1;have p2 := heap_cell HBX.out.a 2;have p3 := heap_cell HBX.out.a 3
    go_wp2_with fail
    refine (HEV.out _ HBX.out.bel).mono ?_;rintro e w4 ⟨rfl, hb⟩;replace HBX := Lib.hid (HBX.out.far hb);clear hb p1 p2 p3
    go_wp2
    go_ret2
    exact ⟨rfl, HBX.out.bel⟩
  subst hec;rw [if_pos rfl] at hev ⊢;have hsg := fun W => refSignT dx (by decide) W
  have hdv : ∀ m : Int, M = some m → ∀ W, Calls Tryz.prog 22 #[.string (TX x), .string tm] W (GetsT (x / (m : Rat)) W) := fun m hm W => by
    rw [← HTM.out, hm];rw [hm] at hk;obtain ⟨-, -, h1, hmd⟩ := hk;exact refDivT dx hmd (by omega) (by omega) (by rw [Rat.num_intCast]; omega) W
  have hii : ∀ m : Int, M = some m → ∀ W, Calls Tryz.prog 41 #[.string (TX (x / (m : Rat)))] W fun e w' => e = .returned (.bool (decide ((x / (m : Rat)).den = 1))) ∧ Below W.heap.size W w' := fun m hm W => by
    rw [hm] at hk;obtain ⟨-, -, h1, hmd⟩ := hk;exact refIsIntT (d := 1800 + d) (dx.div hmd (by rw [Rat.num_intCast]; omega)) (by omega) W
  have htz := tx_zero_test x;have HEV := Lib.hid hev;have HSG := Lib.hid hsg;have HDV := Lib.hid hdv;have HII := Lib.hid hii;have HTZ := Lib.hid htz;clear hev hsg hdv hii htz dx;unfold GetsT at HDV;cases M with
  | none =>
    obtain ⟨hs, hr⟩ := hk;obtain rfl : ⟨#[]⟩ = tm := HTM.out;clear hs HDV HII;rcases hr with rfl | rfl | rfl
    · have hho : holdF 1 none x = decide (sgnI x.num ≤ 0) := by show cmpF 1 x = _; unfold cmpF; rw [if_pos rfl]
      rw [hho];clear hho;obtain ⟨tx, htx⟩ : ∃ t, TX x = t := ⟨_, rfl⟩
      rw [htx] at HEV HSG HTZ;clear htx
      go_enter Tryz.func45, Tryz.ntmps45
      go_wp2_with fail
      generalize w.alloc (.cells #[.int .i64 1, .int .i64 s, .slice a1 n1 c1, .string t1, .string ⟨#[]⟩] 39) = w1 at *;refine (HVL.out _ HBX.out.bel).mono ?_;rintro e w2 ⟨rfl, hb⟩;replace HBX := Lib.hid (HBX.out.far hb);clear hb;have p1 := heap_cell HBX.out.a 1;have p2 := heap_cell HBX.out.a 2;have p3 := heap_cell HBX.out.a 3
      go_wp2_with fail
      refine (HEV.out _ HBX.out.bel).mono ?_;rintro e w4 ⟨rfl, hb⟩;replace HBX := Lib.hid (HBX.out.far hb);clear hb p1 p2 p3;have p0 := heap_cell HBX.out.a 0
      go_wp2_with fail
      refine (HSG.out _).mono ?_;rintro e w5 ⟨rfl, hb⟩;replace HBX := Lib.hid (HBX.out.far hb);clear hb p0
      go_wp2
      go_ret2
      exact ⟨rfl, HBX.out.bel⟩
    · have hho : holdF 2 none x = decide (sgnI x.num < 0) := by show cmpF 2 x = _; unfold cmpF; rw [if_neg (by decide), if_pos rfl]
      rw [hho];clear hho;obtain ⟨tx, htx⟩ : ∃ t, TX x = t := ⟨_, rfl⟩
      rw [htx] at HEV HSG HTZ;clear htx
      go_enter Tryz.func45, Tryz.ntmps45
      go_wp2_with fail
      generalize w.alloc (.cells #[.int .i64 2, .int .i64 s, .slice a1 n1 c1, .string t1, .string ⟨#[]⟩] 39) = w1 at *;refine (HVL.out _ HBX.out.bel).mono ?_;rintro e w2 ⟨rfl, hb⟩;replace HBX := Lib.hid (HBX.out.far hb);clear hb;have p1 := heap_cell HBX.out.a 1;have p2 := heap_cell HBX.out.a 2;have p3 := heap_cell HBX.out.a 3
      go_wp2_with fail
      refine (HEV.out _ HBX.out.bel).mono ?_;rintro e w4 ⟨rfl, hb⟩;replace HBX := Lib.hid (HBX.out.far hb);clear hb p1 p2 p3;have p0 := heap_cell HBX.out.a 0
      go_wp2_with fail
      refine (HSG.out _).mono ?_;rintro e w5 ⟨rfl, hb⟩;replace HBX := Lib.hid (HBX.out.far hb);clear hb p0
      go_wp2
      go_ret2
      exact ⟨rfl, HBX.out.bel⟩
    · obtain ⟨bz, hbz⟩ : ∃ b, decide (x.num = 0) = b := ⟨_, rfl⟩
      rw [hbz] at HTZ;have hho : holdF 3 none x = bz := by show cmpF 3 x = _; unfold cmpF; rw [if_neg (by decide), if_neg (by decide)]; exact hbz
      rw [hho];clear hho hbz;obtain ⟨tx, htx⟩ : ∃ t, TX x = t := ⟨_, rfl⟩
      rw [htx] at HEV HSG HTZ;clear htx
      go_enter Tryz.func45, Tryz.ntmps45
      go_wp2_with fail
      generalize w.alloc (.cells #[.int .i64 3, .int .i64 s, .slice a1 n1 c1, .string t1, .string ⟨#[]⟩] 39) = w1 at *;refine (HVL.out _ HBX.out.bel).mono ?_;rintro e w2 ⟨rfl, hb⟩;replace HBX := Lib.hid (HBX.out.far hb);clear hb;have p1 := heap_cell HBX.out.a 1;have p2 := heap_cell HBX.out.a 2;have p3 := heap_cell HBX.out.a 3
      go_wp2_with fail
      refine (HEV.out _ HBX.out.bel).mono ?_;rintro e w4 ⟨rfl, hb⟩;replace HBX := Lib.hid (HBX.out.far hb);clear hb p1 p2 p3;have p0 := heap_cell HBX.out.a 0;have htz := HTZ.out
      go_wp2
      go_ret2
      exact ⟨rfl, HBX.out.bel⟩
  | some m =>
    obtain ⟨rfl, hr, -, -⟩ := hk;have hdv := HDV.out m rfl;have hii := HII.out m rfl;replace HDV := Lib.hid hdv;replace HII := Lib.hid hii;clear hdv hii;obtain ⟨bz, hbz⟩ : ∃ b, decide ((x / (m : Rat)).den = 1) = b := ⟨_, rfl⟩
    obtain ⟨td, htd⟩ : ∃ t, TX (x / (m : Rat)) = t := ⟨_, rfl⟩
    rw [htd] at HDV HII;rw [hbz] at HII;rcases hr with rfl | rfl
    · have hho : holdF 4 (some m) x = bz := by show (decide ((x / (m : Rat)).den = 1) == ((4 : Int) == 4)) = _; rw [hbz]; cases bz <;> rfl
      rw [hho];clear hho hbz htd;obtain ⟨tx, htx⟩ : ∃ t, TX x = t := ⟨_, rfl⟩
      rw [htx] at HEV HSG HDV HTZ;clear htx
      go_enter Tryz.func45, Tryz.ntmps45
      go_wp2_with fail
      generalize w.alloc (.cells #[.int .i64 4, .int .i64 2, .slice a1 n1 c1, .string t1, .string tm] 39) = w1 at *;refine (HVL.out _ HBX.out.bel).mono ?_;rintro e w2 ⟨rfl, hb⟩;replace HBX := Lib.hid (HBX.out.far hb);clear hb;have p1 := heap_cell HBX.out.a 1;have p2 := heap_cell HBX.out.a 2;have p3 := heap_cell HBX.out.a 3
      go_wp2_with fail
      refine (HEV.out _ HBX.out.bel).mono ?_;rintro e w4 ⟨rfl, hb⟩;replace HBX := Lib.hid (HBX.out.far hb);clear hb p1 p2 p3;have p0 := heap_cell HBX.out.a 0
      go_wp2_with fail
      refine add_region [[], [], [1], [0, 1, 2], [0, 1, 2, 3], [], [5], [5, 6], [0, 1, 2, 3, 4, 5, 6, 7], [0, 1, 2, 3, 4, 5, 6, 7, 8], [0, 1, 2, 3, 4, 5, 6, 7, 8, 9]] (fun W => HB w W 4 2 a1 n1 c1 t1 tm) (fun _ => True) ?_
      iterate 3
        apply a_con
        · intro x; go_simp; done
        · intro x W R hW hF hR;have p0 := heap_cell hW.a 0;have p4 := heap_cell hW.a 4;clear hF;unfold addAt
          go_simp
          simp only [addUpon];exact hR _ (Below.refl _ _)
        simp only [Act.put, List.setIfInBounds_toArray, List.set_cons_zero, List.set_cons_succ]
      apply a_con
      · intro x; go_simp; done
      · intro x W R hW hF hR;clear hF;unfold addAt
        go_simp
        simp only [addUpon];refine (HDV.out W).mono ?_;rintro e w' ⟨rfl, hb⟩;exact ⟨_, rfl, hR _ hb⟩
      simp only [Act.put, List.setIfInBounds_toArray, List.set_cons_zero, List.set_cons_succ];apply a_con
      · intro x; go_simp; done
      · intro x W R hW hF hR;clear hF;unfold addAt
        go_simp
        simp only [addUpon];refine (HII.out W).mono ?_;rintro e w' ⟨rfl, hb⟩;exact ⟨_, rfl, hR _ hb⟩
      simp only [Act.put, List.setIfInBounds_toArray, List.set_cons_zero, List.set_cons_succ]
      iterate 6
        apply a_con
        · intro x; go_simp; done
        · intro x W R hW hF hR;have p0 := heap_cell hW.a 0;have p4 := heap_cell hW.a 4;clear hF;unfold addAt
          go_simp
          simp only [addUpon];exact hR _ (Below.refl _ _)
        simp only [Act.put, List.setIfInBounds_toArray, List.set_cons_zero, List.set_cons_succ]
      refine a_nil (by kernel_rfl) (by kernel_rfl) (by kernel_rfl) (fun _ _ h hb => h.far hb) (fun _ _ _ _ => trivial) (fun _ _ => trivial) (HBX.out.far (Below.refl _ _).drew) ?_;intro x W hE hW hF hD;clear hD;replace HBX := Lib.hid (hW rfl);clear hF hW hE
      go_wp2
      go_ret2
      exact ⟨rfl, HBX.out.bel⟩
    · have hho : holdF 5 (some m) x = !bz := by show (decide ((x / (m : Rat)).den = 1) == ((5 : Int) == 4)) = _; rw [hbz]; cases bz <;> rfl
      rw [hho];clear hho hbz htd;obtain ⟨tx, htx⟩ : ∃ t, TX x = t := ⟨_, rfl⟩
      rw [htx] at HEV HSG HDV HTZ;clear htx
      go_enter Tryz.func45, Tryz.ntmps45
      go_wp2_with fail
      generalize w.alloc (.cells #[.int .i64 5, .int .i64 2, .slice a1 n1 c1, .string t1, .string tm] 39) = w1 at *;refine (HVL.out _ HBX.out.bel).mono ?_;rintro e w2 ⟨rfl, hb⟩;replace HBX := Lib.hid (HBX.out.far hb);clear hb;have p1 := heap_cell HBX.out.a 1;have p2 := heap_cell HBX.out.a 2;have p3 := heap_cell HBX.out.a 3
      go_wp2_with fail
      refine (HEV.out _ HBX.out.bel).mono ?_;rintro e w4 ⟨rfl, hb⟩;replace HBX := Lib.hid (HBX.out.far hb);clear hb p1 p2 p3;have p0 := heap_cell HBX.out.a 0
      go_wp2_with fail
      refine add_region [[], [], [1], [0, 1, 2], [0, 1, 2, 3], [], [5], [5, 6], [0, 1, 2, 3, 4, 5, 6, 7], [0, 1, 2, 3, 4, 5, 6, 7, 8], [0, 1, 2, 3, 4, 5, 6, 7, 8, 9]] (fun W => HB w W 5 2 a1 n1 c1 t1 tm) (fun _ => True) ?_
      iterate 3
        apply a_con
        · intro x; go_simp; done
        · intro x W R hW hF hR;have p0 := heap_cell hW.a 0;have p4 := heap_cell hW.a 4;clear hF;unfold addAt
          go_simp
          simp only [addUpon];exact hR _ (Below.refl _ _)
        simp only [Act.put, List.setIfInBounds_toArray, List.set_cons_zero, List.set_cons_succ]
      apply a_con
      · intro x; go_simp; done
      · intro x W R hW hF hR;clear hF;unfold addAt
        go_simp
        simp only [addUpon];refine (HDV.out W).mono ?_;rintro e w' ⟨rfl, hb⟩;exact ⟨_, rfl, hR _ hb⟩
      simp only [Act.put, List.setIfInBounds_toArray, List.set_cons_zero, List.set_cons_succ];apply a_con
      · intro x; go_simp; done
      · intro x W R hW hF hR;clear hF;unfold addAt
        go_simp
        simp only [addUpon];refine (HII.out W).mono ?_;rintro e w' ⟨rfl, hb⟩;exact ⟨_, rfl, hR _ hb⟩
      simp only [Act.put, List.setIfInBounds_toArray, List.set_cons_zero, List.set_cons_succ]
      iterate 6
        apply a_con
        · intro x; go_simp; done
        · intro x W R hW hF hR;have p0 := heap_cell hW.a 0;have p4 := heap_cell hW.a 4;clear hF;unfold addAt
          go_simp
          simp only [addUpon];exact hR _ (Below.refl _ _)
        simp only [Act.put, List.setIfInBounds_toArray, List.set_cons_zero, List.set_cons_succ]
      refine a_nil (by kernel_rfl) (by kernel_rfl) (by kernel_rfl) (fun _ _ h hb => h.far hb) (fun _ _ _ _ => trivial) (fun _ _ => trivial) (HBX.out.far (Below.refl _ _).drew) ?_;intro x W hE hW hF hD;clear hD;replace HBX := Lib.hid (hW rfl);clear hF hW hE
      go_wp2
      go_ret2
      exact ⟨rfl, HBX.out.bel⟩
end
end Go.Proofs.YteoklapcifonaaaGreatDoor

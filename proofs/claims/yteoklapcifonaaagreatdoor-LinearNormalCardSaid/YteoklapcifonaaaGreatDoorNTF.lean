/- The reference's multiples of expressions: times. -/
import Derived.Test.YteoklapcifonaaaGreatDoorNLJ
import Derived.Test.YteoklapcifonaaaGreatDoorNLK
import Derived.Test.YteoklapcifonaaaGreatDoorNLG
import Derived.Test.YteoklapcifonaaaGreatDoorNTC
import Derived.Test.YteoklapcifonaaaGreatDoorNMO
open Go.Lib (hid)
namespace Go.Proofs.YteoklapcifonaaaGreatDoor
open Go.RowKit Nmx
/-- the boxes of times: the expression, the result -/
structure TB (w W : World) (s : Int) (a1 : Option Addr) (n1 c1 : Nat) (t1 : ByteArray) : Prop where
 a : W.heap[w.heap.size]? = some (.cells #[.int .i64 s, .slice a1 n1 c1, .string t1] 26 (0, 0))
 r : W.heap[w.heap.size + 1]? = some (.cells #[.int .i64 0, .slice none 0 0, .string ⟨#[]⟩] 26 (0, 0))
 bel : Below w.heap.size w W
/-- .. what is made in S -/
structure TS (w W : World) (s : Int) (a1 : Option Addr) (n1 c1 : Nat) (t1 tc : ByteArray) (S : Nat) (v v' : Value) (rs : List (List UInt8 × Rat)) : Prop where
 tb : TB w W s a1 n1 c1 t1
 hs : W.heap[S]? = some (.cells #[.int .i64 s, v, .string tc] 26 (0, 0))
 row : W.ownsRow (S + 1) 79 2 v' rs.length (flat rs)
 l1 : w.heap.size + 1 < S
section
variable {w W W' : World} {s : Int} {a1 : Option Addr} {n1 c1 : Nat} {t1 tc : ByteArray} {S : Nat} {v v' : Value} {rs : List (List UInt8 × Rat)}
theorem TB.far (h : TB w W s a1 n1 c1 t1) (hb : Below W.heap.size W W') : TB w W' s a1 n1 c1 t1 :=
 ⟨(hb.block _ (ab h.a)).trans h.a, (hb.block _ (ab h.r)).trans h.r, h.bel.trans (hb.mono h.bel.size)⟩
theorem TS.far (h : TS w W s a1 n1 c1 t1 tc S v v' rs) (hb : Below W.heap.size W W') : TS w W' s a1 n1 c1 t1 tc S v v' rs :=
 ⟨h.tb.far hb, (hb.block _ (ab h.hs)).trans h.hs, row_same h.row fun g hg => hb.block _ (h.row.lt g hg).2, h.l1⟩
theorem TS.grow {x : List UInt8 × Rat} (h : TS w W s a1 n1 c1 t1 tc S v v rs) (hg : W.grownBy W' v.ownBlock) (hr : W'.ownsRow (S + 1) 79 2 v' (rs.length + 1) (flat rs ++ [.string ⟨x.1.toArray⟩, .string (TX x.2)])) : TS w W' s a1 n1 c1 t1 tc S v v' (rs ++ [x]) := by
 have h1 := h.l1;have hne : ∀ g, g ≤ S → some g ≠ v.ownBlock := fun g hgS e => by have := (h.row.lt g e.symm).1; omega
 refine ⟨⟨(hg.block _ (ab h.tb.a) (hne _ (by omega))).trans h.tb.a, (hg.block _ (ab h.tb.r) (hne _ (by omega))).trans h.tb.r, h.tb.bel.grown hg h.tb.bel.size fun g e => by have := (h.row.lt g e).1; omega⟩, (hg.block S (ab h.hs) (hne S (Nat.le_refl _))).trans h.hs, ?_, h1⟩;rw [List.length_append, flat_append];exact hr
theorem TS.set (h : TS w W s a1 n1 c1 t1 tc S v v' rs) : TS w (W.setCell ⟨S, 1, none⟩ v') s a1 n1 c1 t1 tc S v' v' rs := by
 have h1 := h.l1;have hset : ∀ g, g ≠ S → (W.setCell ⟨S, 1, none⟩ v').heap[g]? = W.heap[g]? := fun g hgS => Below.heap_setCell _ _ _ _ hgS
 refine ⟨⟨(hset _ (by omega)).trans h.tb.a, (hset _ (by omega)).trans h.tb.r, h.tb.bel.setCell (show w.heap.size ≤ S by omega) _⟩, ?_, ?_, h1⟩
 · have := heap_setCell_same W S 1 _ _ v' h.hs;exact this
 · exact ownsRow_setCell_below h.row (a := ⟨S, 1, none⟩) (show S < S + 1 by omega) v'
end
theorem scl_cann {f : Rat} (hf : f ≠ 0) {l : List (List UInt8 × Rat)} (h : Can ltB l) : Can ltB (scl f l) := by
 induction l with
 | nil => trivial
 | cons x l ih =>
   obtain ⟨m, p⟩ := x;refine ⟨fun e => ?_, fun y hy => ?_, ih h.2.2⟩
   · rcases Rat.mul_eq_zero.1 e with h1 | h1
     · exact hf h1
     · exact h.1 h1
   · obtain ⟨z, hz, rfl⟩ := List.mem_map.1 hy;exact h.2.1 z hz
theorem scl_coff (f : Rat) (l : List (List UInt8 × Rat)) (n : List UInt8) : cof (scl f l) n = f * cof l n := by
 induction l with
 | nil => show (0 : Rat) = f * 0; rw [Rat.mul_zero]
 | cons x l ih =>
   obtain ⟨m, p⟩ := x;show cof ((m, f * p) :: scl f l) n = _;rw [aW, aW]
   split
   · rfl
   · exact ih
theorem scl_good [Nms] {d e : Nat} {f : Rat} (hf : f ≠ 0) (df : DS e f) {l : List (List UInt8 × Rat)} (h : Good d l) : Good (e + d) (scl f l) :=
 ⟨scl_cann hf h.can, fun x hx => by obtain ⟨y, hy, rfl⟩ := List.mem_map.1 hx; exact h.nm y hy, fun x hx => by obtain ⟨y, hy, rfl⟩ := List.mem_map.1 hx; exact df.mul (h.ds y hy)⟩
theorem scl_snoc {f : Rat} {l : List (List UInt8 × Rat)} {j : Nat} (h : j < l.length) : scl f (l.take (j + 1)) = scl f (l.take j) ++ [(l[j].1, f * l[j].2)] := by
 unfold scl;rw [List.take_succ_eq_append_getElem h, List.map_append];rfl
section
set_option maxRecDepth 100000
set_option maxHeartbeats 8000000
theorem timesR [Nms] {d e : Nat} {w : World} {s : Int} {a1 : Option Addr} {n1 c1 : Nat} {t1 : ByteArray} {p k : Rat} {cs : List (List UInt8 × Rat)} (h : LVi w (.agg #[.int .i64 s, .slice a1 n1 c1, .string t1]) s d p cs) (dk : DS e k) (hd : d ≤ 3000) (he : e ≤ 3000) :
    Calls Tryz.prog 83 #[.agg #[.int .i64 s, .slice a1 n1 c1, .string t1], .string (TX k)] w (GetsL s (e + d) (k * p) (fun n => k * cof cs n) w) := by
 obtain ⟨a1', g, off, c1', he1, hC, hty, hg, dp⟩ := h;injection he1 with he1;injection he1 with he1;injection he1 with _ he1;injection he1 with he2 he1;injection he1 with he3 he1;injection he2 with e1 e2 e3;injection he3 with e4;subst e1 e3 e2 e4;clear he1;have hle := hC.le;have hmost := hC.most;have HC := hid hC;have HG := hid hg;have HCL : Hid (cs.length ≤ 8) := hid (can_len8 hg);have HDK := hid dk;have HDC : Hid (DS (e + d) (k * p)) := hid (dk.mul dp);have htz := bg k
 have hm0 : ∀ W, Calls Tryz.prog 81 #[.string (TX p), .string (TX k)] W fun e w' => e = .returned (.string (TX (k * p))) ∧ Below W.heap.size W w' := fun W => by
  have := refMulT dp dk (by omega) (by omega) W;rw [Rat.mul_comm] at this;exact this
 have hmj : ∀ (j : Nat) (hj : j < cs.length) W, Calls Tryz.prog 81 #[.string (TX cs[j].2), .string (TX k)] W fun e w' => e = .returned (.string (TX (k * cs[j].2))) ∧ Below W.heap.size W w' := fun j hj W => by
  have := refMulT (hg.ds _ (List.getElem_mem hj)) dk (by omega) (by omega) W;rw [Rat.mul_comm] at this;exact this
 obtain ⟨tk, htk⟩ : ∃ t, TX k = t := ⟨_, rfl⟩
 obtain ⟨t1, ht1⟩ : ∃ t, TX p = t := ⟨_, rfl⟩
 obtain ⟨tc, htc⟩ : ∃ t, TX (k * p) = t := ⟨_, rfl⟩
 rw [htk] at htz hmj hm0 ⊢;rw [ht1, htc] at hm0;rw [ht1];have HTC := hid htc;have HM0 := hid hm0;have HMJ := hid hmj;obtain ⟨m1, m2, mb⟩ := newL2 w (.cells #[.int .i64 s, .slice a1 cs.length c1, .string t1] 26) (.cells #[.int .i64 0, .slice none 0 0, .string ⟨#[]⟩] 26);have HTB := hid (⟨m1, m2, mb⟩ : TB w _ s a1 cs.length c1 t1);obtain ⟨n1, hn1⟩ : ∃ n, cs.length = n := ⟨_, rfl⟩
 have HN := hid hn1;rw [hn1] at HTB hle ⊢;clear hm0 hmj m1 m2 mb htk ht1 htc hC hg dk dp hty hn1
 go_enter Tryz.func83, Tryz.ntmps83
 go_wp2_with fail
 generalize (w.alloc (.cells #[.int .i64 s, .slice a1 n1 c1, .string t1] 26)).alloc (.cells #[.int .i64 0, .slice none 0 0, .string ⟨#[]⟩] 26) = w1 at *;refine aF [[], [0], [], [2], [], [2, 3, 4], [0, 1, 2, 3, 4, 5], [], [0, 1, 2, 3, 4, 5, 6, 7]] (fun W => TB w W s a1 n1 c1 t1) (fun _ => True) ?_
 iterate 5
  apply aM
  · intro x; go_simp; done
  · intro x W R hW hF hR;have p0 := aa hW.a 0;have p1 := aa hW.a 1;have p2 := aa hW.a 2;clear hF;unfold ag
    go_simp
    simp only [ac];exact hR _ (Below.refl _ _)
  simp only [Act.put, List.setIfInBounds_toArray, List.set_cons_zero, List.set_cons_succ]
 apply aM
 · intro x; go_simp; done
 · intro x W R hW hF hR;clear hF;unfold ag
   go_simp
   simp only [ac];refine (HM0.out W).mono ?_;rintro e w' ⟨rfl, hb⟩;exact ⟨_, rfl, hR _ hb⟩
 simp only [Act.put, List.setIfInBounds_toArray, List.set_cons_zero, List.set_cons_succ];apply aM
 · intro x; go_simp; done
 · intro x W R hW hF hR;clear hF;unfold ag
   go_simp
   simp only [ac];exact hR _ (Below.refl _ _)
 simp only [Act.put, List.setIfInBounds_toArray, List.set_cons_zero, List.set_cons_succ];refine a_new (fun B W => w.heap.size + 1 < B ∧ W.heap[B]? = some (.cells #[.int .i64 0, .slice none 0 0, .string ⟨#[]⟩] 26 (0, 0))) (fun _ _ _ h hb => ⟨h.1, (hb.block _ (ab h.2)).trans h.2⟩) ?_ ?_ ?_
 · intro x; go_simp; done
 · intro x W R hW hF hR;clear hF;unfold ag
   go_simp
   simp only [ac];exact hR _ ⟨ab hW.r, heap_alloc_new _ _⟩ ((Below.refl _ _).alloc (Nat.le_refl _) _) (by simp)
 simp only [Act.put, List.setIfInBounds_toArray, List.set_cons_zero, List.set_cons_succ, List.length_cons, List.length_nil, Nat.zero_add, Nat.reduceAdd];refine a_wrt (fun x W => ∃ S, x 7 = .pointer (some ⟨S, 0, none⟩) ∧ TS w W s a1 n1 c1 t1 tc S (.slice none 0 0) (.slice none 0 0) []) (fun _ _ _ h hb => let ⟨S, h1, h2⟩ := h; ⟨S, h1, h2.far hb⟩) (fun x x' w hx hT => let ⟨S, h1, h⟩ := hT; ⟨S, (hx 7 (.inr (List.contains_iff_mem.1 rfl))).symm.trans h1, h⟩) ?_ ?_ ?_
 · intro x; go_simp; done
 · intro x W R hW hF hD hR;have hb := hF.1.2 rfl rfl rfl;simp only [AK.fact] at hb;obtain ⟨S, hx7, hl, hS⟩ := hb;simp only [hx7];have e0 := aa hS 0;have e1 := aa hS 1;have e2 := aa hS 2;have fr := fun i => ah hS i
   clear hF hD;unfold ag
   go_simp
   simp only [ac];have ho : ∀ g, g ≠ S → (((W.setCell ⟨S, 0, none⟩ (.int .i64 s)).setCell ⟨S, 1, none⟩ (.slice none 0 0)).setCell ⟨S, 2, none⟩ (.string tc)).heap[g]? = W.heap[g]? := fun g hg => aj _ _ _ hg
   have hbl := ((hW.bel.setCell (show w.heap.size ≤ S by omega) (p := ⟨S, 0, none⟩) (.int .i64 s)).setCell (p := ⟨S, 1, none⟩) (show w.heap.size ≤ S by omega) (.slice none 0 0)).setCell (p := ⟨S, 2, none⟩) (show w.heap.size ≤ S by omega) (.string tc);exact hR _ _ ⟨S, (aJ (i := 8) (j := 7) _ _ (by decide)).trans hx7, ⟨(ho _ (by omega)).trans hW.a, (ho _ (by omega)).trans hW.r, hbl⟩, aU hS, World.ownsRow_nil _ _ _ _, hl⟩ trivial (by simp [World.setCell])
 simp only [Act.put];refine a_nil (by kernel_rfl) (by kernel_rfl) (by kernel_rfl) (fun _ _ h hb => h.far hb) (fun _ _ _ _ => trivial) (fun _ _ => trivial) (HTB.out.far (Below.refl _ _).drew) ?_;intro x W hE hW hF hD;clear hD;obtain ⟨S, hx7, hts⟩ := hF.1.2 rfl;simp only [hx7];have HTS := hid hts;have p1 := aa hts.tb.a 1;have hla := ab hts.tb.a;clear hF hW hts hx7 HTB
 go_wp2_with fail
 go_loopg [6] n1 (fun gh v6 wr => ∃ (j : Nat) (v : Value) (rs : List (List UInt8 × Rat)), gh = n1 - j ∧ j ≤ n1 ∧ v6 = .int .i64 j ∧ TS w wr s a1 n1 c1 t1 tc S v v rs ∧ rs = scl k (cs.take j) ∧ (k = 0 → j = 0))
 case atStart => exact ⟨0, _, _, rfl, Nat.zero_le _, rfl, HTS.out, rfl, fun _ => rfl⟩
 case round =>
  obtain ⟨j, v, rs, rfl, hj, rfl, hts, hrs, hkj⟩ := hrel;have HT2 := hid hts;have HRS := hid hrs;have HKJ := hid hkj;have p1 := aa HT2.out.tb.a 1;have hla := ab HT2.out.tb.a;clear hts hrs hkj HTS;have hj0 : (0 : Int) ≤ (j : Int) := by omega
  have hend : (j = n1 ∨ k = 0) → ∃ ao cap, v = .slice ao rs.length cap ∧ LV wr (.agg #[.int .i64 s, .slice ao rs.length cap, .string tc]) s (e + d) (k * p) rs ∧ ∀ n, cof rs n = k * cof cs n := fun hjk => by
   obtain ⟨ao, gq, cap, hv, hc, hq⟩ := csl_of_row2 HT2.out.row;refine ⟨ao, cap, hv, ⟨ao, gq, 0, cap, by rw [← HTC.out], hc, hq, ?_, HDC.out⟩, fun n => ?_⟩
   · by_cases h0 : k = 0
     · rw [HRS.out, HKJ.out h0];exact ⟨trivial, fun x hx => (List.not_mem_nil hx).elim, fun x hx => (List.not_mem_nil hx).elim⟩
     · have hall : cs.take j = cs := List.take_of_length_le (by rw [HN.out]; have := hjk.resolve_right h0; omega);rw [HRS.out, hall];exact scl_good h0 HDK.out HG.out
   · by_cases h0 : k = 0
     · rw [HRS.out, HKJ.out h0, h0, Rat.zero_mul]; rfl
     · have hall : cs.take j = cs := List.take_of_length_le (by rw [HN.out]; have := hjk.resolve_right h0; omega);rw [HRS.out, hall, scl_coff]
  have HEND := hid hend;clear hend
  by_cases hjk : j < n1 ∧ k ≠ 0
  · obtain ⟨hlt, hk0⟩ := hjk;have hlt' : (j : Int) < (n1 : Int) := by omega
    rw [decide_eq_false (fun h => hk0 (Rat.num_eq_zero.1 h))] at htz;have hl : j < cs.length := by rw [HN.out]; exact hlt
    have had := HC.out.ad (by omega);subst had;obtain ⟨tq, htq⟩ : ∃ t, TX (cs[j]'hl).2 = t := ⟨_, rfl⟩
    have HTQ := hid htq;obtain ⟨qr, hqr⟩ : ∃ q, k * (cs[j]'hl).2 = q := ⟨_, rfl⟩
    obtain ⟨nm, hnm⟩ : ∃ n, (cs[j]'hl).1 = n := ⟨_, rfl⟩
    obtain ⟨tn, htn⟩ : ∃ t : ByteArray, (⟨(cs[j]'hl).1.toArray⟩ : ByteArray) = t := ⟨_, rfl⟩
    have HTN := hid htn;have HNM : Hid ((⟨nm.toArray⟩ : ByteArray) = tn) := hid (by rw [← hnm]; exact htn);have hsn : scl k (cs.take (j + 1)) = rs ++ [(nm, qr)] := by rw [← hqr, ← hnm, HRS.out]; exact scl_snoc hl
    obtain ⟨tr, htr⟩ : ∃ t, TX qr = t := ⟨_, rfl⟩
    have hmr : ∀ W, Calls Tryz.prog 81 #[.string tq, .string tk] W fun e w' => e = .returned (.string tr) ∧ Below W.heap.size W w' := fun W => by rw [← htq, ← htr, ← hqr]; exact HMJ.out j hl W
    have HTR := hid htr;have HMR := hid hmr;have HSN : Hid (rs ++ [(nm, qr)] = scl k (cs.take (j + 1))) := hid hsn.symm;have HRL : Hid (rs.length ≤ 8) := hid (by rw [HRS.out]; unfold scl; rw [List.length_map, List.length_take]; have := HCL.out; omega);clear hmr hsn htq hqr hnm htn htr;obtain ⟨i0, hi0', hz0, hz1, hz2⟩ := info_parts infoCoef
    go_wp2_with fail
    refine aF [[], [0], [], [2], [], [2, 3, 4], [2, 3, 4, 5], [2, 3, 4, 5, 6], [], [8], [], [8, 9, 10], [8, 9, 10, 11], [8, 9, 10, 11, 12], [], [8, 9, 10, 11, 12, 13, 14], [2, 3, 4, 5, 6, 7, 8, 9, 10, 11, 12, 13, 14, 15], [2, 3, 4, 5, 6, 7, 8, 9, 10, 11, 12, 13, 14, 15, 16], [0, 1, 2, 3, 4, 5, 6, 7, 8, 9, 10, 11, 12, 13, 14, 15, 16, 17], [0, 1, 2, 3, 4, 5, 6, 7, 8, 9, 10, 11, 12, 13, 14, 15, 16, 17, 18], [0, 1, 2, 3, 4, 5, 6, 7, 8, 9, 10, 11, 12, 13, 14, 15, 16, 17, 18, 19]] (fun W => TS w W s (some ⟨g, off, none⟩) n1 c1 t1 tc S v v rs) (fun _ => True) ?_
    iterate 15
     apply aM
     · intro x; go_simp; done
     · intro x W R hW hF hR;have p1 := aa hW.tb.a 1;have s1 := aa hW.hs 1;have q0 := (HC.out.far hW.tb.bel).nm j hl;have q1 := (HC.out.far hW.tb.bel).nu j hl;rw [HTN.out] at q0;rw [HTQ.out] at q1;clear hF;unfold ag
       go_simp
       simp only [ac];exact hR _ (Below.refl _ _)
     simp only [Act.put, List.setIfInBounds_toArray, List.set_cons_zero, List.set_cons_succ]
    apply aM
    · intro x; go_simp; done
    · intro x W R hW hF hR;clear hF;unfold ag
      go_simp
      simp only [ac];refine (HMR.out W).mono ?_;rintro e w' ⟨rfl, hb⟩;exact ⟨_, rfl, hR _ hb⟩
    simp only [Act.put, List.setIfInBounds_toArray, List.set_cons_zero, List.set_cons_succ];apply aM
    · intro x; go_simp; done
    · intro x W R hW hF hR;clear hF;unfold ag
      go_simp
      simp only [ac];exact hR _ (Below.refl _ _)
    simp only [Act.put, List.setIfInBounds_toArray, List.set_cons_zero, List.set_cons_succ];refine ba (fun u W => ∃ B, u = .slice (some ⟨B, 0, none⟩) 1 1 ∧ W.heap[B]? = some (.cells #[.string tn, .string tr] 79 (0, 0))) (fun _ _ _ h hb => let ⟨B, h1, h2⟩ := h; ⟨B, h1, (hb.block _ (ab h2)).trans h2⟩) ?_ ?_ ?_
    · intro x; go_simp; done
    · intro x W R hW hF hR;clear hF;unfold ag
      go_simp
      simp only [ac];exact hR _ _ ⟨W.heap.size, rfl, heap_alloc_new _ _⟩ ((Below.refl _ _).alloc (Nat.le_refl _) _)
    simp only [Act.put, List.setIfInBounds_toArray, List.set_cons_zero, List.set_cons_succ, List.length_cons, List.length_nil, Nat.zero_add, Nat.reduceAdd];refine a_wrt (fun x W => TS w W s (some ⟨g, off, none⟩) n1 c1 t1 tc S v (x 18) (rs ++ [(nm, qr)])) (fun _ _ _ h hb => h.far hb) (fun x x' w h hT => by have e := h 18 (.inl rfl); rw [e] at hT; exact hT) ?_ ?_ ?_
    · intro x; go_simp; done
    · intro x W R hW hF hD hR;obtain ⟨B, hx, hB⟩ := hF.1.2 rfl rfl rfl;clear hF;simp only [hx];have hrl := HRL.out;refine addAt_append (.tmp 26) (.tmp 42) 24 rfl (S + 1) 79 i0 _ 2 32 Tryz.underlying24 hi0' hz0 hz1 hz2 rfl (by decide) v rs.length (flat rs) rfl hW.row ⟨B, 0, none⟩ 1 1 [.string tn, .string tr] rfl rfl (World.news_of_block (cs := #[.string tn, .string tr]) hB) (by simp [Value.oneCell']) (by unfold maxLen; omega) (by omega) (ab hW.hs) ?_;intro v' w' hrow hg;refine hR _ _ ?_ trivial hg.size;show TS w w' s (some ⟨g, off, none⟩) n1 c1 t1 tc S v (updX x 18 v' 18) (rs ++ [(nm, qr)]);rw [bk];refine hW.grow (x := (nm, qr)) hg ?_;rw [HNM.out, HTR.out];exact hrow
    simp only [Act.put, List.setIfInBounds_toArray, List.set_cons_zero, List.set_cons_succ, List.length_cons, List.length_nil, Nat.zero_add, Nat.reduceAdd];apply a_late
    · intro x; go_simp; done
    · intro x W R hW hF hR;clear hF hW;unfold ag
      go_simp
      simp only [ac];exact hR _ (Below.refl _ _)
    simp only [Act.put, List.setIfInBounds_toArray, List.set_cons_zero, List.set_cons_succ];refine a_wrt2 (fun x W => TS w W s (some ⟨g, off, none⟩) n1 c1 t1 tc S (x 18) (x 18) (rs ++ [(nm, qr)])) (fun _ _ _ h hb => h.far hb) (fun x x' w h hT => by have e := h 18 (.inr (List.contains_iff_mem.1 rfl)); rw [e] at hT; exact hT) ?_ ?_ ?_
    · intro x; go_simp; done
    · intro x W R hW hF hD hR;have hL := hF.2.1.2 rfl rfl rfl;simp only [AK.fact] at hL;obtain ⟨aq, gq, cq, hv, -, -⟩ := csl_of_row hL.row;simp only [hv];rw [hv] at hL;have e0 := aa hL.hs 1;have fr := fun i => ah hL.hs i
      clear hF;unfold ag
      go_simp
      simp only [ac];refine hR _ _ ?_ trivial (by simp [World.setCell]);show TS w _ s (some ⟨g, off, none⟩) n1 c1 t1 tc S (updX x 20 _ 18) (updX x 20 _ 18) (rs ++ [(nm, qr)]);rw [aJ (i := 20) (j := 18) _ _ (by decide), hv];have := hL.set;rw [show (rs ++ [(nm, qr)]).length = rs.length + 1 by rw [List.length_append]; rfl] at this ⊢;exact this
    simp only [Act.put];refine a_nil (by kernel_rfl) (by kernel_rfl) (by kernel_rfl) (fun _ _ h hb => h.far hb) (fun _ _ _ _ => trivial) (fun _ _ => trivial) (HT2.out.far (Below.refl _ _).drew) ?_;intro x W hE hW hF hD;clear hD;have hls := hF.1.2 rfl;have HL2 := hid hls;clear hF hW hls
    go_wp2_with fail
    go_roundg (n1 - (j + 1))
    case rel => exact ⟨j + 1, _, _, rfl, by omega, by go_num, HL2.out, HSN.out, fun h => absurd h hk0⟩
    case measure => omega
  · obtain ⟨ao, cap, rfl, hlv, hcf⟩ := HEND.out (by
      by_cases h0 : k = 0
      · exact .inr h0
      · refine .inl ?_;have : ¬ j < n1 := fun h => hjk ⟨h, h0⟩
        omega)
    have HLV := hid hlv;have HCF := hid hcf;have s0 := aa HT2.out.hs 0;have s1 := aa HT2.out.hs 1;have s2 := aa HT2.out.hs 2;have r0 := aa HT2.out.tb.r 0;have r1 := aa HT2.out.tb.r 1;have r2 := aa HT2.out.tb.r 2;have fr := fun i => ah HT2.out.tb.r i
    clear hlv hcf
    by_cases hlt : j < n1
    · have hk0 : k = 0 := by
        refine Classical.byContradiction fun h => hjk ⟨hlt, h⟩
      have hlt' : (j : Int) < (n1 : Int) := by omega
      rw [decide_eq_true (by rw [hk0]; rfl)] at htz;clear hk0 hjk
      go_wp2_with fail
      exact end_lin rfl rfl rfl HT2.out.tb.r ⟨rs, _, rfl, HLV.out.but HT2.out.tb.r (by decide) (fun g hg => aj _ _ _ hg), HCF.out, ((HT2.out.tb.bel.setCell (show w.heap.size ≤ w.heap.size + 1 by omega) _).setCell (show w.heap.size ≤ w.heap.size + 1 by omega) _).setCell (show w.heap.size ≤ w.heap.size + 1 by omega) _⟩
    · have hlt' : ¬ ((j : Int) < (n1 : Int)) := by omega
      clear hjk
      go_wp2_with fail
      exact end_lin rfl rfl rfl HT2.out.tb.r ⟨rs, _, rfl, HLV.out.but HT2.out.tb.r (by decide) (fun g hg => aj _ _ _ hg), HCF.out, ((HT2.out.tb.bel.setCell (show w.heap.size ≤ w.heap.size + 1 by omega) _).setCell (show w.heap.size ≤ w.heap.size + 1 by omega) _).setCell (show w.heap.size ≤ w.heap.size + 1 by omega) _⟩
end
end Go.Proofs.YteoklapcifonaaaGreatDoor
/- The reference's ValidLinear, ValidConstraint at expressions and constraints that are valid. -/
namespace Go.Proofs.YteoklapcifonaaaGreatDoor
open Go.RowKit Nmx
section
set_option maxRecDepth 100000
set_option maxHeartbeats 8000000
theorem refNumeric_any {s : Int} (hs : s = 2 ∨ s = 3) (w : World) : Calls Tryz.prog 71 #[.int .i64 s] w fun e w' => e = .returned (.bool true) ∧ w' = w := by
 rcases hs with rfl | rfl
 all_goals
  go_enter Tryz.func71, Tryz.ntmps71
  go_wp2
  go_ret
  exact ⟨rfl, rfl⟩
theorem nameF_nm : ∀ n ∈ nm4, bK n = true := by decide +kernel
theorem refName_nm (n : List UInt8) (h : n ∈ nm4) (w : World) : Calls Tryz.prog 73 #[.string ⟨n.toArray⟩] w fun e w' => e = .returned (.bool true) ∧ Below w.heap.size w w' := by
 have := refName_any ⟨n.toArray⟩ w;rw [toList_mk, nameF_nm n h] at this;exact this
theorem refValidL {d : Nat} {w : World} {v : Value} {s : Int} {c : Rat} {cs : List (List UInt8 × Rat)} (h : LV w v s d c cs) (hs : s = 2 ∨ s = 3) (hd : d ≤ 3000) :
    Calls Tryz.prog 30 #[v] w fun e w' => e = .returned (.bool true) ∧ Below w.heap.size w w' := by
 obtain ⟨ao, g, off, cap, rfl, hC, -, hg, hc⟩ := h;have hle := hC.le;have hmost := hC.most;have HH := hid hC;have HG := hid hg;have hnu := fun W => refNumeric_any hs W
 have hvc := fun W => refValidT hc (by omega) W
 have HB0 : Hid (Below w.heap.size w (w.alloc (.cells #[.int .i64 s, .slice ao cs.length cap, .string (TX c)] 26))) := hid ((Below.refl _ _).alloc (Nat.le_refl _) _);have HX0 := hid (heap_alloc_new w (.cells #[.int .i64 s, .slice ao cs.length cap, .string (TX c)] 26));obtain ⟨n, hn⟩ : ∃ n, cs.length = n := ⟨_, rfl⟩
 have HN := hid hn;rw [hn] at hle HB0 HX0 ⊢;clear hC hg hn hc hs;generalize TX c = tc at *;have HNU := hid hnu;have HVC := hid hvc;clear hnu hvc
 go_enter Tryz.func30, Tryz.ntmps30
 go_wp2_with fail
 generalize w.alloc (.cells #[.int .i64 s, .slice ao n cap, .string tc] 26) = w1 at *;refine (HNU.out _).mono ?_;rintro e w2 ⟨rfl, rfl⟩;have x2 := aa HX0.out 2
 go_wp2_with fail
 refine (HVC.out _).mono ?_;rintro e w3 ⟨rfl, hb⟩;have HB3 := hid (HB0.out.trans (hb.mono HB0.out.size));have HX3 := hid ((hb.block _ (ab HX0.out)).trans HX0.out);clear hb x2 HB0 HX0;have x1 := aa HX3.out 1
 go_wp2_with fail
 clear x1
 go_loopg [3] n (fun gh iv wr => ∃ k : Nat, gh = n - k ∧ k ≤ n ∧ iv = .int .i64 k ∧ wr.heap[w.heap.size]? = some (.cells #[.int .i64 s, .slice ao n cap, .string tc] 26 (0, 0)) ∧ Below w.heap.size w wr)
 case atStart => exact ⟨0, rfl, Nat.zero_le _, rfl, HX3.out, HB3.out⟩
 case round =>
  obtain ⟨k, rfl, hk, rfl, hx, hb⟩ := hrel;have HX := hid hx;have HB := hid hb;have x0 := aa hx 0;have x1 := aa hx 1;have x2 := aa hx 2;clear hx hb HB3 HX3
  by_cases hlt : k < n
  · have had := HH.out.ad (by omega);subst had;have hlt' : k < cs.length := by rw [HN.out]; exact hlt
    have hlti : (k : Int) < (n : Int) := by omega
    have hki0 : (0 : Int) ≤ (k : Int) := by omega
    have y0 := (HH.out.far HB.out).nm k hlt';have y1 := (HH.out.far HB.out).nu k hlt';have hin := fun W => refName_nm cs[k].1 (HG.out.nm _ (List.getElem_mem hlt')) W
    have hnv := fun W => refValidT (HG.out.ds _ (List.getElem_mem hlt')) (by omega) W
    have hnz : ((TX cs[k].2).toList == [48]) = false := by
     rw [bg];exact decide_eq_false (fun e => can_nz HG.out.can _ (List.getElem_mem hlt') (Rat.num_eq_zero.1 e))
    obtain ⟨t0, ht0⟩ : ∃ t0 : ByteArray, ⟨cs[k].1.toArray⟩ = t0 := ⟨_, rfl⟩
    rw [ht0] at y0 hin;have HT0 := hid ht0;clear ht0;generalize TX cs[k].2 = t1 at *
    go_wp2_with fail
    have C0 : ∀ W, Below wr.heap.size wr W → W.cell? ⟨g, off + k * 2, none⟩ = some (.string t0) := fun W hW => (hW.cell (World.block_lt_of_cell? _ _ y0)).trans y0
    have C1 : ∀ W, Below wr.heap.size wr W → W.cell? ⟨g, off + k * 2 + 1, none⟩ = some (.string t1) := fun W hW => (hW.cell (World.block_lt_of_cell? _ _ y1)).trans y1
    have C2 : ∀ W, Below wr.heap.size wr W → W.cell? ⟨w.heap.size, 1, none⟩ = some (.slice (some ⟨g, off, none⟩) n cap) := fun W hW => (hW.cell (World.block_lt_of_cell? _ _ x1)).trans x1
    have HC0 := hid C0;have HC1 := hid C1;have HC2 := hid C2;clear C0 C1 C2 x0 x1 x2 y0 y1
    by_cases hk0 : k = 0
    · subst hk0;refine q_region (fun W => Below wr.heap.size wr W) (by kernel_rfl) (by kernel_rfl) (Below.refl _ _).drew ?_
      repeat (first
       | (refine q_skip ?_ ?_
          · (go_simp; done)
          simp only [Act.put, List.setIfInBounds_toArray, List.set_cons_zero, List.set_cons_succ])
       | (refine q_take (v := ?_) ?_ ?_ ?_
          rotate_left
          · (go_simp; done)
          · intro W hW;have z0 := HC0.out W hW;have z1 := HC1.out W hW;have z2 := HC2.out W hW;rw [Nat.zero_mul, Nat.add_zero] at z0 z1
            go_simp
            first
            | with_reducible rfl
            | (go_at_call 73; refine (hin W).mono ?_; rintro e u ⟨rfl, hb⟩; refine ⟨?_, hW.trans (hb.mono hW.size)⟩; with_reducible rfl)
            | (go_at_call 72; refine (hnv W).mono ?_; rintro e u ⟨rfl, hb⟩; refine ⟨?_, hW.trans (hb.mono hW.size)⟩; with_reducible rfl)
          simp only [Act.put, List.setIfInBounds_toArray, List.set_cons_zero, List.set_cons_succ]))
      refine q_nil ?_;intro w2 hw2;have HB2 := hid (HB.out.trans (hw2.mono HB.out.size));have HX2 := hid ((hw2.block _ (ab HX.out)).trans HX.out);clear hw2
      go_wp2
      go_roundg (n - (0 + 1))
      case rel => exact ⟨0 + 1, rfl, by omega, by go_num, HX2.out, HB2.out⟩
      case measure => omega
    · obtain ⟨j, hjk⟩ : ∃ j, k = j + 1 := ⟨k - 1, by omega⟩
      have hjl : j < cs.length := by rw [HN.out]; omega
      have p0 := (HH.out.far HB.out).nm j hjl;have hls := less_ba (can_at HG.out.can (i := j) (by rw [HN.out]; omega))
      have htk : (⟨(cs[j + 1]'(by rw [HN.out]; omega)).1.toArray⟩ : ByteArray) = t0 := by
       have := HT0.out;subst hjk;exact this
      rw [htk] at hls;obtain ⟨tp, htp⟩ : ∃ t : ByteArray, (⟨(cs[j]'hjl).1.toArray⟩ : ByteArray) = t := ⟨_, rfl⟩
      rw [htp] at p0 hls;have C3 : ∀ W, Below wr.heap.size wr W → W.cell? ⟨g, off + j * 2, none⟩ = some (.string tp) := fun W hW => (hW.cell (World.block_lt_of_cell? _ _ p0)).trans p0
      have HC3 := hid C3;have d1 : decide ((0 : Int) < (k : Int)) = true := decide_eq_true (by omega);have d0 : (0 : Int) < (k : Int) := by omega
      have d2 : 0 < k := by omega
      have d3 : decide (0 < k) = true := decide_eq_true d2;have hw1 : IntKind.i64.wrap ((k : Int) - 1) = (j : Int) := by rw [IntKind.wrap_i64]; omega
      have e3 : (0 : Int) ≤ (j : Int) := by omega
      have e4 : (j : Int) < (n : Int) := by omega
      clear C3 p0 htk htp hjl hjk;refine q_region (fun W => Below wr.heap.size wr W) (by kernel_rfl) (by kernel_rfl) (Below.refl _ _).drew ?_
      repeat (first
       | (refine q_skip ?_ ?_
          · (go_simp; done)
          simp only [Act.put, List.setIfInBounds_toArray, List.set_cons_zero, List.set_cons_succ])
       | (refine q_take (v := ?_) ?_ ?_ ?_
          rotate_left
          · (go_simp; done)
          · intro W hW;have z0 := HC0.out W hW;have z1 := HC1.out W hW;have z2 := HC2.out W hW;have z3 := HC3.out W hW
            go_simp
            first
            | with_reducible rfl
            | (go_at_call 73; refine (hin W).mono ?_; rintro e u ⟨rfl, hb⟩; refine ⟨?_, hW.trans (hb.mono hW.size)⟩; with_reducible rfl)
            | (go_at_call 72; refine (hnv W).mono ?_; rintro e u ⟨rfl, hb⟩; refine ⟨?_, hW.trans (hb.mono hW.size)⟩; with_reducible rfl)
          simp only [Act.put, List.setIfInBounds_toArray, List.set_cons_zero, List.set_cons_succ]))
      refine q_nil ?_;intro w2 hw2;have HB2 := hid (HB.out.trans (hw2.mono HB.out.size));have HX2 := hid ((hw2.block _ (ab HX.out)).trans HX.out);clear hw2
      go_wp2
      go_roundg (n - (k + 1))
      case rel => exact ⟨k + 1, rfl, by omega, by go_num, HX2.out, HB2.out⟩
      case measure => omega
  · have hlti : ¬ ((k : Int) < (n : Int)) := by omega
    go_wp2
    go_ret
    exact ⟨rfl, HB.out⟩
end
end Go.Proofs.YteoklapcifonaaaGreatDoor
/- The reference's ValidConstraint at constraints that are valid. -/
namespace Go.Proofs.YteoklapcifonaaaGreatDoor
open Go.RowKit Nmx
section
set_option maxRecDepth 100000
set_option maxHeartbeats 8000000
theorem refValidC {d : Nat} {w : World} {r s : Int} {a1 : Option Addr} {n1 c1 : Nat} {t1 : ByteArray} {p : Rat} {cs : List (List UInt8 × Rat)} {M : Option Int} (h : LV w (.agg #[.int .i64 s, .slice a1 n1 c1, .string t1]) s d p cs) (hk : ConM r s d M) (hd : d ≤ 3000) :
    Calls Tryz.prog 32 #[.agg #[.int .i64 r, .int .i64 s, .slice a1 n1 c1, .string t1, .string (TXo M)]] w fun e w' => e = .returned (.bool true) ∧ Below w.heap.size w w' := by
 cases M with
 | none =>
   obtain ⟨hs, hr⟩ := hk;have hal := (Below.refl w.heap.size w).alloc (Nat.le_refl _) (.cells #[.int .i64 r, .int .i64 s, .slice a1 n1 c1, .string t1, .string ⟨#[]⟩] 39);have hv := refValidL (h.far hal) hs hd;have HA := hid (heap_alloc_new w (.cells #[.int .i64 r, .int .i64 s, .slice a1 n1 c1, .string t1, .string ⟨#[]⟩] 39));have HB := hid hal;have HV := hid hv;clear h hal hs hv;show Calls Tryz.prog 32 #[.agg #[.int .i64 r, .int .i64 s, .slice a1 n1 c1, .string t1, .string ⟨#[]⟩]] w fun e w' => e = .returned (.bool true) ∧ Below w.heap.size w w'
   go_enter Tryz.func32, Tryz.ntmps32
   go_wp2_with fail
   refine HV.out.mono ?_;rintro e w1 ⟨rfl, hb⟩;replace HA := hid ((hb.block _ (ab HA.out)).trans HA.out);replace HB := hid (HB.out.trans (hb.mono HB.out.size));have p0 := aa HA.out 0;have p4 := aa HA.out 4;clear hb HV;rcases hr with rfl | rfl | rfl
   all_goals
    go_wp2
    go_ret
    exact ⟨rfl, HB.out⟩
 | some m =>
   obtain ⟨rfl, hr, hm, hmd⟩ := hk;have hii := fun W => bA hmd (by omega) W
   have hsg := fun W => refSignT hmd (by omega) W
   rw [Rat.den_intCast] at hii;rw [Rat.num_intCast, sgn_pos hm] at hsg;show Calls Tryz.prog 32 #[.agg #[.int .i64 r, .int .i64 2, .slice a1 n1 c1, .string t1, .string (TX (m : Rat))]] w fun e w' => e = .returned (.bool true) ∧ Below w.heap.size w w'
   generalize TX (m : Rat) = tm at *;have hal := (Below.refl w.heap.size w).alloc (Nat.le_refl _) (.cells #[.int .i64 r, .int .i64 2, .slice a1 n1 c1, .string t1, .string tm] 39);have hv := refValidL (h.far hal) (.inl rfl) hd;have HA := hid (heap_alloc_new w (.cells #[.int .i64 r, .int .i64 2, .slice a1 n1 c1, .string t1, .string tm] 39));have HB := hid hal;have HV := hid hv;have HII := hid hii;have HSG := hid hsg;clear h hal hm hmd hii hsg hv
   go_enter Tryz.func32, Tryz.ntmps32
   go_wp2_with fail
   refine HV.out.mono ?_;rintro e w1 ⟨rfl, hb⟩;replace HA := hid ((hb.block _ (ab HA.out)).trans HA.out);replace HB := hid (HB.out.trans (hb.mono HB.out.size));have p0 := aa HA.out 0;have p1 := aa HA.out 1;have p4 := aa HA.out 4;clear hb HV;rcases hr with rfl | rfl
   all_goals
    go_wp2_with fail
    refine (HII.out _).mono ?_;rintro e w2 ⟨rfl, hb⟩;replace HA := hid ((hb.block _ (ab HA.out)).trans HA.out);replace HB := hid (HB.out.trans (hb.mono HB.out.size));clear hb p0 p1 p4;have p4 := aa HA.out 4
    go_wp2_with fail
    refine (HSG.out _).mono ?_;rintro e w3 ⟨rfl, hb⟩;replace HB := hid (HB.out.trans (hb.mono HB.out.size));clear hb p4 HA
    go_wp2
    go_ret
    exact ⟨rfl, HB.out⟩
end
end Go.Proofs.YteoklapcifonaaaGreatDoor

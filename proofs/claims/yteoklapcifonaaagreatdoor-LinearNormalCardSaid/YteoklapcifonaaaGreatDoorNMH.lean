/- Constraints that differ by a positive factor: the comparisons' normal forms are the same. -/
import Derived.Test.YteoklapcifonaaaGreatDoorNMO
import Derived.Test.YteoklapcifonaaaGreatDoorNLM
open Go.Lib (hid)
namespace Go.Proofs.YteoklapcifonaaaGreatDoor
open Go.RowKit Nmx
end Go.Proofs.YteoklapcifonaaaGreatDoor
/- The normal form of a divisibility: what it is; it is the same for constraints that differ by a positive factor. -/
namespace Go.Proofs.YteoklapcifonaaaGreatDoor
open Go.RowKit Nmx
/-- a number times the common denominator, modulo the modulus -/
def rsD (F : Nat) (zM : Int) (q : Rat) : Int := (q * ((F : Nat) : Rat)).num % zM
/-- the greatest common divisor of the modulus and the coefficients -/
def gcdL (F : Nat) (zM : Int) : Nat → List (List UInt8 × Rat) → Nat
 | g, [] => g
 | g, x :: l => gcdL F zM (Nat.gcd g (rsD F zM x.2).natAbs) l
/-- the normal form of a divisibility: relation, constant, coefficients, modulus -/
def DF (r m : Int) (p : Rat) (l : List (List UInt8 × Rat)) (r' : Int) (c' : Rat) (f' : List UInt8 → Rat) (tm' : ByteArray) : Prop :=
 ∃ (F : Nat) (zM g : Int), F = ar p.den l ∧ zM = m * F ∧ g = gcdL F zM zM.natAbs l ∧
  ((rsD F zM p % g ≠ 0 ∧ r' = (if r = 4 then 2 else 1) ∧ c' = 0 ∧ (f' = fun _ => 0) ∧ tm' = ⟨#[]⟩) ∨
   (rsD F zM p % g = 0 ∧ zM / g = 1 ∧ r' = (if r = 4 then 1 else 2) ∧ c' = 0 ∧ (f' = fun _ => 0) ∧ tm' = ⟨#[]⟩) ∨
   (rsD F zM p % g = 0 ∧ zM / g ≠ 1 ∧ r' = r ∧ c' = ((rsD F zM p / g : Int) : Rat) ∧ (f' = fun n => ((rsD F zM (cof l n) / g : Int) : Rat)) ∧ tm' = TX ((zM / g : Int) : Rat)))
end Go.Proofs.YteoklapcifonaaaGreatDoor
/- normalDivides: the remainder of a number by the modulus. -/
namespace Go.Proofs.YteoklapcifonaaaGreatDoor
open Go.RowKit Nmx
/-- the boxes of the remainder: factor in D, modulus in M -/
structure RB (w W : World) (D M : Nat) (A B : Array Value) (zF zM : Int) : Prop where
 d : W.heap[D]? = some (.cells A 83 (0, 0))
 vd : IV W (.agg A) zF
 m : W.heap[M]? = some (.cells B 83 (0, 0))
 vm : IV W (.agg B) zM
 r : W.heap[w.heap.size]? = some (.cells #[.int .i64 0, .bool false, .slice none 0 0] 83 (0, 0))
 ld : D < w.heap.size
 lm : M < w.heap.size
 bel : Below w.heap.size w W
theorem RB.far {w W W' : World} {D M : Nat} {A B : Array Value} {zF zM : Int} (h : RB w W D M A B zF zM) (hb : Below W.heap.size W W') : RB w W' D M A B zF zM :=
 ⟨(hb.block _ (ab h.d)).trans h.d, h.vd.far hb, (hb.block _ (ab h.m)).trans h.m, h.vm.far hb, (hb.block _ (ab h.r)).trans h.r, h.ld, h.lm, h.bel.trans (hb.mono h.bel.size)⟩
theorem RB.but {w W W' : World} {D M : Nat} {A B : Array Value} {zF zM : Int} (h : RB w W D M A B zF zM) {R : Nat} {cs : Array Value} {fr : Nat × Nat} (hR : W.heap[R]? = some (.cells cs 83 fr)) (hl : w.heap.size < R) (ho : ∀ g, g ≠ R → W'.heap[g]? = W.heap[g]?) (hs : W.heap.size ≤ W'.heap.size) (h1 : W'.os = W.os) (h2 : W'.tape = W.tape) (h3 : W'.output = W.output) : RB w W' D M A B zF zM := by
 have ld := h.ld;have lm := h.lm;exact ⟨(ho _ (by omega)).trans h.d, h.vd.but hR (by decide) ho, (ho _ (by omega)).trans h.m, h.vm.but hR (by decide) ho, (ho _ (by omega)).trans h.r, ld, lm, ⟨h1.trans h.bel.os, h2.trans h.bel.tape, h3.trans h.bel.output, Nat.le_trans h.bel.size hs, fun k hk => (ho k (by omega)).trans (h.bel.block k hk)⟩⟩
section
set_option maxRecDepth 100000
set_option maxHeartbeats 4000000
theorem restI {d e : Nat} {w : World} {D M : Nat} {A B : Array Value} {zF zM : Int} {q : Rat} (hD : w.heap[D]? = some (.cells A 83 (0, 0))) (vD : IV w (.agg A) zF) (hM : w.heap[M]? = some (.cells B 83 (0, 0))) (vM : IV w (.agg B) zM) (dq : DS d q) (dF : DS e (zF : Rat)) (h0 : zM ≠ 0) (fM : Fit zM) (hd : d ≤ 800) (he : e ≤ 800) (hE : Env w) :
    Calls Tryz.prog 119 #[.string (TX q), .pointer (some ⟨D, 0, none⟩), .pointer (some ⟨M, 0, none⟩)] w (aY ((q * zF).num % zM) w) := by
 have fN : Fit (q * zF).num := fit_ten (k := d + e) (Nat.le_of_lt (dq.mul dF).1) (by omega);have hmk : ∀ W, Below w.heap.size w W → Calls Tryz.prog 56 #[.string (TX q)] W (GetsQ q W) := fun W hW => mustT dq (by omega) W (hE.far hW)
 have hfi := fun W v (h : IV W v zF) => ratFromInt_any v zF W h
 have hml := fun W u v (hu : RV W u q) (hv : RV W v (zF : Rat)) => ratMul_any u v _ _ W hu hv (ds_rs (k := 100) dq (by omega)) (ds_rs (k := 100) dF (by omega)) (by omega)
 have hnm := fun W v (h : RV W v (q * zF)) => ratNum_any v _ W h
 have hqr := fun W u v (hu : IV W u (q * zF).num) (hv : IV W v zM) => quoRem_any u v _ _ W hu hv fN fM h0
 obtain ⟨s1, b1, a1, n1, c1, hA⟩ := ae vD;injection hA with hA;subst hA;obtain ⟨s2, b2, a2, n2, c2, hB⟩ := ae vM;injection hB with hB;subst hB;have hal := (Below.refl w.heap.size w).alloc (Nat.le_refl _) (.cells #[.int .i64 0, .bool false, .slice none 0 0] 83);have HK := hid (⟨(hal.block _ (ab hD)).trans hD, vD.far hal, (hal.block _ (ab hM)).trans hM, vM.far hal, heap_alloc_new _ _, ab hD, ab hM, hal⟩ : RB w _ D M #[.int .i64 s1, .bool b1, .slice a1 n1 c1] #[.int .i64 s2, .bool b2, .slice a2 n2 c2] zF zM);generalize (q * zF).num = zn at *;generalize TX q = tq at *;obtain ⟨zq, hzq⟩ : ∃ zq : Int, zn / zM = zq := ⟨_, rfl⟩
 obtain ⟨zr, hzr⟩ : ∃ zr : Int, zn % zM = zr := ⟨_, rfl⟩
 unfold QRPost at hqr;rw [hzq, hzr] at hqr;rw [hzr];have HMK := hid hmk;have HFI := hid hfi;have HML := hid hml;have HNM := hid hnm;have HQR := hid hqr;clear hD vD hM vM dq dF h0 fM fN hmk hfi hml hnm hqr hzq hzr hal hE
 go_enter Tryz.func119, Tryz.ntmps119
 go_wp2_with fail
 generalize w.alloc (.cells #[.int .i64 0, .bool false, .slice none 0 0] 83) = w3 at *;refine aF [[], [0], [], [0, 1, 2], [0, 1, 2, 3], [0, 1, 2, 3, 4], [], [0, 1, 2, 3, 4, 5, 6], [0, 1, 2, 3, 4, 5, 6, 7], [0, 1, 2, 3, 4, 5, 6, 7, 8], [0, 1, 2, 3, 4, 5, 6, 7, 8], [], [], [0, 1, 2, 3, 4, 5, 6, 7, 8, 9, 11, 12], [0, 1, 2, 3, 4, 5, 6, 7, 8, 9, 10, 11, 12, 13]] (fun W => RB w W D M #[.int .i64 s1, .bool b1, .slice a1 n1 c1] #[.int .i64 s2, .bool b2, .slice a2 n2 c2] zF zM) (fun _ => True) ?_;apply aM
 · intro x; go_simp; done
 · intro x W R hW hF hR;clear hF;unfold ag
   go_simp
   simp only [ac];exact hR _ (Below.refl _ _)
 simp only [Act.put, List.setIfInBounds_toArray, List.set_cons_zero, List.set_cons_succ];refine ba (fun v W => RV W v q) (fun _ _ _ h hb => h.far hb) ?_ ?_ ?_
 · intro x; go_simp; done
 · intro x W R hW hF hR;clear hF;unfold ag
   go_simp
   simp only [ac];refine (HMK.out W hW.bel).mono ?_;rintro e w' ⟨v, rfl, hv, hb⟩;exact ⟨v, rfl, hR _ _ hv hb⟩
 simp only [Act.put, List.setIfInBounds_toArray, List.set_cons_zero, List.set_cons_succ, List.length_cons, List.length_nil, Nat.zero_add];apply aM
 · intro x; go_simp; done
 · intro x W R hW hF hR;have p0 := aa hW.d 0;have p1 := aa hW.d 1;have p2 := aa hW.d 2;have q0 := aa hW.m 0;have q1 := aa hW.m 1;have q2 := aa hW.m 2;clear hF;unfold ag
   go_simp
   simp only [ac];exact hR _ (Below.refl _ _)
 simp only [Act.put, List.setIfInBounds_toArray, List.set_cons_zero, List.set_cons_succ];refine ba (fun v W => RV W v (zF : Rat)) (fun _ _ _ h hb => h.far hb) ?_ ?_ ?_
 · intro x; go_simp; done
 · intro x W R hW hF hR;clear hF;unfold ag
   go_simp
   simp only [ac];refine (HFI.out W _ hW.vd).mono ?_;rintro e w' ⟨v, rfl, hv, hb⟩;exact ⟨v, rfl, hR _ _ hv hb⟩
 simp only [Act.put, List.setIfInBounds_toArray, List.set_cons_zero, List.set_cons_succ, List.length_cons, List.length_nil, Nat.zero_add, Nat.reduceAdd];refine ba (fun v W => RV W v (q * zF)) (fun _ _ _ h hb => h.far hb) ?_ ?_ ?_
 · intro x; go_simp; done
 · intro x W R hW hF hR;have hu := hF.2.2.1.2 rfl rfl rfl;have hv := hF.1.2 rfl rfl rfl;simp only [AK.fact] at hu hv;clear hF;unfold ag
   go_simp
   simp only [ac];refine (HML.out W _ _ hu hv).mono ?_;rintro e w' ⟨v, rfl, hv, hb⟩;exact ⟨v, rfl, hR _ _ hv hb⟩
 simp only [Act.put, List.setIfInBounds_toArray, List.set_cons_zero, List.set_cons_succ, List.length_cons, List.length_nil, Nat.zero_add, Nat.reduceAdd];refine ba (fun v W => IV W v (zn)) (fun _ _ _ h hb => h.far hb) ?_ ?_ ?_
 · intro x; go_simp; done
 · intro x W R hW hF hR;have hu := hF.1.2 rfl rfl rfl;simp only [AK.fact] at hu;clear hF;unfold ag
   go_simp
   simp only [ac];refine (HNM.out W _ hu).mono ?_;rintro e w' ⟨v, rfl, hv, hb⟩;exact ⟨v, rfl, hR _ _ hv hb⟩
 simp only [Act.put, List.setIfInBounds_toArray, List.set_cons_zero, List.set_cons_succ, List.length_cons, List.length_nil, Nat.zero_add, Nat.reduceAdd];apply aM
 · intro x; go_simp; done
 · intro x W R hW hF hR;have p0 := aa hW.d 0;have p1 := aa hW.d 1;have p2 := aa hW.d 2;have q0 := aa hW.m 0;have q1 := aa hW.m 1;have q2 := aa hW.m 2;clear hF;unfold ag
   go_simp
   simp only [ac];exact hR _ (Below.refl _ _)
 simp only [Act.put, List.setIfInBounds_toArray, List.set_cons_zero, List.set_cons_succ];refine a_opqF (PairShape) (fun v W => ∃ v1 v2, v = .tuple #[v1, v2] ∧ IV W v1 zq ∧ IV W v2 zr) (fun _ _ _ h hb => let ⟨v1, v2, h1, h2, h3⟩ := h; ⟨v1, v2, h1, h2.far hb, h3.far hb⟩) ?_ ?_ ?_
 · intro x; go_simp; done
 · intro x W R hW hF hR;have hu := hF.2.1.2 rfl rfl rfl;simp only [AK.fact] at hu;clear hF;unfold ag
   go_simp
   simp only [ac];refine (HQR.out W _ _ hu hW.vm).mono ?_;rintro e w' ⟨v1, v2, rfl, hv1, hv2, hb⟩;exact ⟨_, rfl, hR _ _ ⟨v1, v2, rfl, hv1.shape, hv2.shape⟩ ⟨v1, v2, rfl, hv1, hv2⟩ hb⟩
 simp only [Act.put, List.setIfInBounds_toArray, List.set_cons_zero, List.set_cons_succ, List.length_cons, List.length_nil, Nat.zero_add, Nat.reduceAdd];refine a_opqF (PairShape) (fun v W => ∃ v1 v2, v = .tuple #[v1, v2] ∧ IV W v1 zq ∧ IV W v2 zr) (fun _ _ _ h hb => let ⟨v1, v2, h1, h2, h3⟩ := h; ⟨v1, v2, h1, h2.far hb, h3.far hb⟩) ?_ ?_ ?_
 · intro x; go_simp; done
 · intro x W R hW hF hR;have hu := hF.1.2 rfl rfl rfl;have hs := hF.1.1 rfl;simp only [AK.fact] at hu;simp only [AK.free] at hs;clear hF;unfold ag
   go_simp
   simp only [ac];exact hR _ _ hs hu (Below.refl _ _)
 simp only [Act.put, List.setIfInBounds_toArray, List.set_cons_zero, List.set_cons_succ, List.length_cons, List.length_nil, Nat.zero_add, Nat.reduceAdd];refine a_fre (IntShape) ?_ ?_ ?_
 · intro x; go_simp; done
 · intro x W R hW hF hR;have hs := hF.1.1 rfl;simp only [AK.free] at hs;obtain ⟨v1, v2, hx, hs1, hs2⟩ := hs;simp only [hx];clear hF;unfold ag
   go_simp
   simp only [ac];exact hR _ _ hs1 (Below.refl _ _)
 simp only [Act.put, List.setIfInBounds_toArray, List.set_cons_zero, List.set_cons_succ, List.length_cons, List.length_nil, Nat.zero_add, Nat.reduceAdd];refine a_freX (fun x => ∃ v1, x 8 = .tuple #[v1, x 10]) (fun x x' hx h => by rw [← hx 8 (.inr (List.contains_iff_mem.1 rfl)), ← hx 10 (.inl rfl)]; exact h) ?_ ?_ ?_
 · intro x; go_simp; done
 · intro x W R hW hF hR;have hs := hF.2.1.1 rfl;simp only [AK.free] at hs;obtain ⟨v1, v2, hx, hs1, hs2⟩ := hs;simp only [hx];clear hF;unfold ag
   go_simp
   simp only [ac];refine hR _ _ ⟨v1, ?_⟩ (Below.refl _ _);show updX x 10 v2 8 = .tuple #[v1, updX x 10 v2 10];rw [bk, aJ (i := 10) (j := 8) _ _ (by decide)];exact hx
 simp only [Act.put, List.setIfInBounds_toArray, List.set_cons_zero, List.set_cons_succ, List.length_cons, List.length_nil, Nat.zero_add, Nat.reduceAdd];refine a_new (fun B W => w.heap.size < B ∧ W.heap[B]? = some (.cells #[.int .i64 0, .bool false, .slice none 0 0] 83 (0, 0))) (fun _ _ _ h hb => ⟨h.1, (hb.block _ (ab h.2)).trans h.2⟩) ?_ ?_ ?_
 · intro x; go_simp; done
 · intro x W R hW hF hR;clear hF;unfold ag
   go_simp
   simp only [ac];exact hR _ ⟨ab hW.r, heap_alloc_new _ _⟩ ((Below.refl _ _).alloc (Nat.le_refl _) _) (by simp)
 simp only [Act.put, List.setIfInBounds_toArray, List.set_cons_zero, List.set_cons_succ, List.length_cons, List.length_nil, Nat.zero_add, Nat.reduceAdd];refine a_new (fun B W => w.heap.size < B ∧ W.heap[B]? = some (.cells #[.int .i64 0, .bool false, .slice none 0 0] 83 (0, 0))) (fun _ _ _ h hb => ⟨h.1, (hb.block _ (ab h.2)).trans h.2⟩) ?_ ?_ ?_
 · intro x; go_simp; done
 · intro x W R hW hF hR;clear hF;unfold ag
   go_simp
   simp only [ac];exact hR _ ⟨ab hW.r, heap_alloc_new _ _⟩ ((Below.refl _ _).alloc (Nat.le_refl _) _) (by simp)
 simp only [Act.put, List.setIfInBounds_toArray, List.set_cons_zero, List.set_cons_succ, List.length_cons, List.length_nil, Nat.zero_add, Nat.reduceAdd];refine a_wrt (fun x W => ∃ B8 B9 v1 v2, x 8 = .tuple #[v1, v2] ∧ IV W v2 zr ∧ x 11 = .pointer (some ⟨B8, 0, none⟩) ∧ x 12 = .pointer (some ⟨B9, 0, none⟩) ∧ w.heap.size < B9 ∧ W.heap[B9]? = some (.cells #[.int .i64 0, .bool false, .slice none 0 0] 83 (0, 0)) ∧ RB w W D M #[.int .i64 s1, .bool b1, .slice a1 n1 c1] #[.int .i64 s2, .bool b2, .slice a2 n2 c2] zF zM) (fun _ _ _ h hb => let ⟨B8, B9, v1, v2, h3, h4, h1, h2, h5, h8, h9⟩ := h; ⟨B8, B9, v1, v2, h3, h4.far hb, h1, h2, h5, (hb.block _ (ab h8)).trans h8, h9.far hb⟩) (fun x x' w hx hT => let ⟨B8, B9, v1, v2, h3, h4, h1, h2, h⟩ := hT; ⟨B8, B9, v1, v2, (hx 8 (.inr (List.contains_iff_mem.1 rfl))).symm.trans h3, h4, (hx 11 (.inr (List.contains_iff_mem.1 rfl))).symm.trans h1, (hx 12 (.inr (List.contains_iff_mem.1 rfl))).symm.trans h2, h⟩) ?_ ?_ ?_
 · intro x; go_simp; done
 · intro x W R hW hF hD hR;have hs := hF.2.2.2.1.1 rfl;have hp := hF.2.2.2.2.1.2 rfl rfl rfl;have h8 := hF.2.1.2 rfl rfl rfl;have h9 := hF.1.2 rfl rfl rfl;have hd := hD 11 12 (List.contains_iff_mem.1 rfl) (List.contains_iff_mem.1 rfl) (by omega) rfl rfl;simp only [AK.fact] at hp h8 h9;simp only [AK.free] at hs;obtain ⟨v1, v2, hxp, -, hvp⟩ := hp;obtain ⟨B8, hx8, hl8, hB8⟩ := h8;obtain ⟨B9, hx9, hl9, hB9⟩ := h9;have hne : B8 ≠ B9 := fun e => hd (by rw [hx8, hx9, e])
   obtain ⟨s, b, ao, n, c, hx6⟩ := hs;simp only [hx8, hx6];have e0 := aa hB8 0;have e1 := aa hB8 1;have e2 := aa hB8 2;have fr := fun i => ah hB8 i
   clear hF hD hd;unfold ag
   go_simp
   simp only [ac];have ho : ∀ g, g ≠ B8 → (((W.setCell ⟨B8, 0, none⟩ (.int .i64 s)).setCell ⟨B8, 1, none⟩ (.bool b)).setCell ⟨B8, 2, none⟩ (.slice ao n c)).heap[g]? = W.heap[g]? := fun g hg => aj _ _ _ hg
   exact hR _ _ ⟨B8, B9, v1, v2, (aJ (i := 13) (j := 8) _ _ (by decide)).trans hxp, hvp.but hB8 (by decide) ho, (aJ (i := 13) (j := 11) _ _ (by decide)).trans hx8, (aJ (i := 13) (j := 12) _ _ (by decide)).trans hx9, hl9, (ho _ (Ne.symm hne)).trans hB9, hW.but hB8 hl8 ho (by simp [World.setCell]) rfl rfl rfl⟩ trivial (by simp [World.setCell])
 simp only [Act.put];refine a_wrt2 (fun x W => ∃ B9 C9, x 12 = .pointer (some ⟨B9, 0, none⟩) ∧ w.heap.size < B9 ∧ W.heap[B9]? = some (.cells C9 83 (0, 0)) ∧ IV W (.agg C9) zr ∧ RB w W D M #[.int .i64 s1, .bool b1, .slice a1 n1 c1] #[.int .i64 s2, .bool b2, .slice a2 n2 c2] zF zM) (fun _ _ _ h hb => let ⟨B9, C9, h1, h5, h6, h7, h9⟩ := h; ⟨B9, C9, h1, h5, (hb.block _ (ab h6)).trans h6, h7.far hb, h9.far hb⟩) (fun x x' w hx hT => let ⟨B9, C9, h1, h⟩ := hT; ⟨B9, C9, (hx 12 (.inr (List.contains_iff_mem.1 rfl))).symm.trans h1, h⟩) ?_ ?_ ?_
 · intro x; go_simp; done
 · intro x W R hW hF hD hR;have hs := hF.2.2.2.1.1 rfl;have hT := hF.1.2 rfl rfl rfl;simp only [AK.fact] at hT;simp only [AK.free] at hs;obtain ⟨B8, B9, v1, v2, hxp, hu, hx8, hx9, hl9, hB9, hM⟩ := hT;obtain ⟨v1', hs⟩ := hs;rw [hxp] at hs;injection hs with hs;injection hs with hs;injection hs with _ hs;injection hs with hs _;subst hs;obtain ⟨s, b, ao, n, c, hx7⟩ := ae hu;rw [hx7] at hu;simp only [hx9, hx7];have e0 := aa hB9 0;have e1 := aa hB9 1;have e2 := aa hB9 2;have fr := fun i => ah hB9 i
   clear hF hD;unfold ag
   go_simp
   simp only [ac];have ho : ∀ g, g ≠ B9 → (((W.setCell ⟨B9, 0, none⟩ (.int .i64 s)).setCell ⟨B9, 1, none⟩ (.bool b)).setCell ⟨B9, 2, none⟩ (.slice ao n c)).heap[g]? = W.heap[g]? := fun g hg => aj _ _ _ hg
   exact hR _ _ ⟨B9, _, (aJ (i := 14) (j := 12) _ _ (by decide)).trans hx9, hl9, aU hB9, hu.but hB9 (by decide) ho, hM.but hB9 hl9 ho (by simp [World.setCell]) rfl rfl rfl⟩ trivial (by simp [World.setCell])
 simp only [Act.put];refine a_nil (by kernel_rfl) (by kernel_rfl) (by kernel_rfl) (fun _ _ h hb => h.far hb) (fun _ _ _ _ => trivial) (fun _ _ => trivial) (HK.out.far (Below.refl _ _).drew) ?_;intro x W hE hW hF hD;clear hD;have hT := hF.1.2 rfl;simp only [AK.fact] at hT;obtain ⟨B9, C9, hx9, hl9, hB9, hI, hM⟩ := hT;obtain ⟨s, b, ao, n, c, hC9⟩ := ae hI;injection hC9 with hC9;subst hC9;have HI := hid hI;have HM := hid hM;simp only [hx9];have e0 := aa hB9 0;have e1 := aa hB9 1;have e2 := aa hB9 2;clear hF hW hI;have r0 := aa hM.r 0;have r1 := aa hM.r 1;have r2 := aa hM.r 2;have fr := fun i => ah hM.r i
 clear hM
 go_wp2_with fail
 have ho : ∀ g, g ≠ w.heap.size → (((W.setCell ⟨w.heap.size, 0, none⟩ (.int .i64 s)).setCell ⟨w.heap.size, 1, none⟩ (.bool b)).setCell ⟨w.heap.size, 2, none⟩ (.slice ao n c)).heap[g]? = W.heap[g]? := fun g hg => aj _ _ _ hg
 refine end_int3 rfl rfl rfl HM.out.r ⟨_, rfl, HI.out.but HM.out.r (by decide) ho, ?_⟩;exact ((HM.out.bel.setCell (show w.heap.size ≤ w.heap.size by omega) _).setCell (show w.heap.size ≤ w.heap.size by omega) _).setCell (show w.heap.size ≤ w.heap.size by omega) _
end
end Go.Proofs.YteoklapcifonaaaGreatDoor
/- Boxes and plain words of normalDivides. -/
namespace Go.Proofs.YteoklapcifonaaaGreatDoor
open Go.RowKit Nmx
theorem gcdL_snoc (F : Nat) (zM : Int) (l : List (List UInt8 × Rat)) (x : List UInt8 × Rat) : ∀ g, gcdL F zM g (l ++ [x]) = Nat.gcd (gcdL F zM g l) (rsD F zM x.2).natAbs := by
 induction l with
 | nil => exact fun _ => rfl
 | cons y l ih => exact fun g => ih _
theorem rs_fit {F : Nat} {zM : Int} (h : 0 < zM) (f : Fit zM) (q : Rat) : Fit (rsD F zM q) := by
 unfold rsD;have h1 := Int.emod_nonneg (q * ((F : Nat) : Rat)).num (show zM ≠ 0 by omega);have h2 := Int.emod_lt_of_pos (q * ((F : Nat) : Rat)).num h;refine fit_le f (n := ((q * ((F : Nat) : Rat)).num % zM).natAbs) (by omega) (by omega)
theorem gcdL_fit {F : Nat} {zM : Int} (h : 0 < zM) (f : Fit zM) (l : List (List UInt8 × Rat)) : ∀ g : Nat, Fit (g : Int) → Fit ((gcdL F zM g l : Nat) : Int) := by
 induction l with
 | nil => exact fun _ hg => hg
 | cons x l ih =>
   intro g hg;refine ih _ (fit_gcd hg ?_);have := rs_fit (F := F) h f x.2;unfold Fit at *;rwa [Int.natAbs_natCast]
theorem gcdL_pos {F : Nat} {zM : Int} (l : List (List UInt8 × Rat)) : ∀ g : Nat, 0 < g → 0 < gcdL F zM g l := by
 induction l with
 | nil => exact fun _ hg => hg
 | cons x l ih => exact fun g hg => ih _ (Nat.gcd_pos_of_pos_left _ hg)
/-- the boxes of normalDivides: the factor in D -/
structure PD (w wr : World) (D : Nat) (r : Int) (a1 : Option Addr) (n1 c1 : Nat) (t1 tm : ByteArray) (C1 : Array Value) (zd : Int) : Prop where
 a : wr.heap[w.heap.size]? = some (.cells #[.int .i64 r, .int .i64 2, .slice a1 n1 c1, .string t1, .string tm] 39 (0, 0))
 r : wr.heap[w.heap.size + 1]? = some (.cells #[.int .i64 0, .int .i64 0, .slice none 0 0, .string ⟨#[]⟩, .string ⟨#[]⟩] 39 (0, 0))
 hd : wr.heap[D]? = some (.cells C1 83 (0, 0))
 vd : IV wr (.agg C1) zd
 l1 : w.heap.size + 1 < D
 bel : Below w.heap.size w wr
theorem PD.far {w wr w' : World} {D : Nat} {r : Int} {a1 : Option Addr} {n1 c1 : Nat} {t1 tm : ByteArray} {C1 : Array Value} {zd : Int} (h : PD w wr D r a1 n1 c1 t1 tm C1 zd) (hb : Below wr.heap.size wr w') : PD w w' D r a1 n1 c1 t1 tm C1 zd :=
 ⟨(hb.block _ (ab h.a)).trans h.a, (hb.block _ (ab h.r)).trans h.r, (hb.block _ (ab h.hd)).trans h.hd, h.vd.far hb, h.l1, h.bel.trans (hb.mono h.bel.size)⟩
theorem PD.setD {w wr : World} {D : Nat} {r : Int} {a1 : Option Addr} {n1 c1 : Nat} {t1 tm : ByteArray} {C1 : Array Value} {zd : Int} (h : PD w wr D r a1 n1 c1 t1 tm C1 zd) {s : Int} {b : Bool} {ao : Option Addr} {n c : Nat} {z : Int} (hz : IV wr (.agg #[.int .i64 s, .bool b, .slice ao n c]) z) : PD w (((wr.setCell ⟨D, 0, none⟩ (.int .i64 s)).setCell ⟨D, 1, none⟩ (.bool b)).setCell ⟨D, 2, none⟩ (.slice ao n c)) D r a1 n1 c1 t1 tm #[.int .i64 s, .bool b, .slice ao n c] z := by
 obtain ⟨_, _, _, _, _, hC1⟩ := ae h.vd;injection hC1 with hC1;subst hC1;have ho : ∀ g, g ≠ D → (((wr.setCell ⟨D, 0, none⟩ (.int .i64 s)).setCell ⟨D, 1, none⟩ (.bool b)).setCell ⟨D, 2, none⟩ (.slice ao n c)).heap[g]? = wr.heap[g]? := fun g hg => aj _ _ _ hg
 have h1 := h.l1;exact ⟨(ho _ (by omega)).trans h.a, (ho _ (by omega)).trans h.r, aU h.hd, hz.but h.hd (by decide) ho, h1, ((h.bel.setCell (show w.heap.size ≤ D by omega) _).setCell (show w.heap.size ≤ D by omega) _).setCell (show w.heap.size ≤ D by omega) _⟩
/-- .. the modulus in M -/
structure PM (w wr : World) (D M : Nat) (r : Int) (a1 : Option Addr) (n1 c1 : Nat) (t1 tm : ByteArray) (C1 C2 : Array Value) (zd zm : Int) : Prop where
 pd : PD w wr D r a1 n1 c1 t1 tm C1 zd
 hm : wr.heap[M]? = some (.cells C2 83 (0, 0))
 vm : IV wr (.agg C2) zm
 l2 : D < M
theorem PM.far {w wr w' : World} {D M : Nat} {r : Int} {a1 : Option Addr} {n1 c1 : Nat} {t1 tm : ByteArray} {C1 C2 : Array Value} {zd zm : Int} (h : PM w wr D M r a1 n1 c1 t1 tm C1 C2 zd zm) (hb : Below wr.heap.size wr w') : PM w w' D M r a1 n1 c1 t1 tm C1 C2 zd zm :=
 ⟨h.pd.far hb, (hb.block _ (ab h.hm)).trans h.hm, h.vm.far hb, h.l2⟩
/-- a store into a block aI them -/
theorem PM.but {w wr w' : World} {D M : Nat} {r : Int} {a1 : Option Addr} {n1 c1 : Nat} {t1 tm : ByteArray} {C1 C2 : Array Value} {zd zm : Int} (h : PM w wr D M r a1 n1 c1 t1 tm C1 C2 zd zm) {R : Nat} {cs : Array Value} {t : TypeId} {fr : Nat × Nat} (hR : wr.heap[R]? = some (.cells cs t fr)) (ht : t ≠ 145) (hl : M < R) (ho : ∀ g, g ≠ R → w'.heap[g]? = wr.heap[g]?) (hb : Below w.heap.size w w') : PM w w' D M r a1 n1 c1 t1 tm C1 C2 zd zm := by
 have h1 := h.pd.l1;have h2 := h.l2;exact ⟨⟨(ho _ (by omega)).trans h.pd.a, (ho _ (by omega)).trans h.pd.r, (ho _ (by omega)).trans h.pd.hd, h.pd.vd.but hR ht ho, h1, hb⟩, (ho _ (by omega)).trans h.hm, h.vm.but hR ht ho, h2⟩
/-- .. the greatest common divisor in G -/
structure PG (w wr : World) (D M G : Nat) (r : Int) (a1 : Option Addr) (n1 c1 : Nat) (t1 tm : ByteArray) (C1 C2 C3 : Array Value) (zd zm zg : Int) : Prop where
 pm : PM w wr D M r a1 n1 c1 t1 tm C1 C2 zd zm
 hg : wr.heap[G]? = some (.cells C3 83 (0, 0))
 vg : IV wr (.agg C3) zg
 l3 : M < G
theorem PG.far {w wr w' : World} {D M G : Nat} {r : Int} {a1 : Option Addr} {n1 c1 : Nat} {t1 tm : ByteArray} {C1 C2 C3 : Array Value} {zd zm zg : Int} (h : PG w wr D M G r a1 n1 c1 t1 tm C1 C2 C3 zd zm zg) (hb : Below wr.heap.size wr w') : PG w w' D M G r a1 n1 c1 t1 tm C1 C2 C3 zd zm zg :=
 ⟨h.pm.far hb, (hb.block _ (ab h.hg)).trans h.hg, h.vg.far hb, h.l3⟩
theorem PG.setG {w wr : World} {D M G : Nat} {r : Int} {a1 : Option Addr} {n1 c1 : Nat} {t1 tm : ByteArray} {C1 C2 C3 : Array Value} {zd zm zg : Int} (h : PG w wr D M G r a1 n1 c1 t1 tm C1 C2 C3 zd zm zg) {s : Int} {b : Bool} {ao : Option Addr} {n c : Nat} {z : Int} (hz : IV wr (.agg #[.int .i64 s, .bool b, .slice ao n c]) z) : PG w (((wr.setCell ⟨G, 0, none⟩ (.int .i64 s)).setCell ⟨G, 1, none⟩ (.bool b)).setCell ⟨G, 2, none⟩ (.slice ao n c)) D M G r a1 n1 c1 t1 tm C1 C2 #[.int .i64 s, .bool b, .slice ao n c] zd zm z := by
 obtain ⟨_, _, _, _, _, hC1⟩ := ae h.vg;injection hC1 with hC1;subst hC1;have ho : ∀ g, g ≠ G → (((wr.setCell ⟨G, 0, none⟩ (.int .i64 s)).setCell ⟨G, 1, none⟩ (.bool b)).setCell ⟨G, 2, none⟩ (.slice ao n c)).heap[g]? = wr.heap[g]? := fun g hg => aj _ _ _ hg
 have h1 := h.pm.pd.l1;have h2 := h.pm.l2;have h3 := h.l3;have hb := ((h.pm.pd.bel.setCell (show w.heap.size ≤ G by omega) (p := ⟨G, 0, none⟩) (.int .i64 s)).setCell (p := ⟨G, 1, none⟩) (show w.heap.size ≤ G by omega) (.bool b)).setCell (p := ⟨G, 2, none⟩) (show w.heap.size ≤ G by omega) (.slice ao n c);exact ⟨h.pm.but h.hg (by decide) h3 ho hb, aU h.hg, hz.but h.hg (by decide) ho, h3⟩
theorem PG.but {w wr w' : World} {D M G : Nat} {r : Int} {a1 : Option Addr} {n1 c1 : Nat} {t1 tm : ByteArray} {C1 C2 C3 : Array Value} {zd zm zg : Int} (h : PG w wr D M G r a1 n1 c1 t1 tm C1 C2 C3 zd zm zg) {R : Nat} {cs : Array Value} {t : TypeId} {fr : Nat × Nat} (hR : wr.heap[R]? = some (.cells cs t fr)) (ht : t ≠ 145) (hl : G < R) (ho : ∀ g, g ≠ R → w'.heap[g]? = wr.heap[g]?) (hb : Below w.heap.size w w') : PG w w' D M G r a1 n1 c1 t1 tm C1 C2 C3 zd zm zg := by
 have h3 := h.l3;exact ⟨h.pm.but hR ht (by omega) ho hb, (ho _ (by omega)).trans h.hg, h.vg.but hR ht ho, h3⟩
/-- a divisibility's normal form is handed back -/
def GetsD [Nms] (r : Int) (tm : ByteArray) (d : Nat) (c : Rat) (f : List UInt8 → Rat) (w : World) (e : Ending) (w' : World) : Prop := ∃ rs ao n cp tx, e = .returned (.agg #[.int .i64 r, .int .i64 2, .slice ao n cp, .string tx, .string tm]) ∧ LV w' (.agg #[.int .i64 2, .slice ao n cp, .string tx]) 2 d c rs ∧ (∀ n, cof rs n = f n) ∧ Below w.heap.size w w'
theorem cof_mem {K : Type} {lt : K → K → Prop} {l : List (K × Rat)} (hc : Can lt l) : ∀ i : Nat, ∀ x ∈ l.take i, ∀ y ∈ l.drop i, lt x.1 y.1 := by
 induction l with
 | nil => intro i x hx; rw [List.take_nil] at hx; exact (List.not_mem_nil hx).elim
 | cons z l ih =>
   obtain ⟨n, p⟩ := z;intro i x hx y hy;cases i with
   | zero => rw [List.take_zero] at hx; exact (List.not_mem_nil hx).elim
   | succ i =>
     rw [List.take_succ_cons] at hx;rw [List.drop_succ_cons] at hy;rcases List.mem_cons.1 hx with h | h
     · rw [h]; exact hc.2.1 y (List.mem_of_mem_drop hy)
     · exact ih hc.2.2 i x h y hy
theorem cof_take_succ {l : List (List UInt8 × Rat)} (hc : Can ltB l) {i : Nat} (h : i < l.length) (n : List UInt8) : cof (l.take (i + 1)) n = if l[i].1 = n then l[i].2 else cof (l.take i) n := by
 have hlt : ∀ x ∈ l.take i, ∀ y ∈ [l[i]], ltB x.1 y.1 := fun x hx y hy => by
  rw [List.mem_singleton.1 hy];exact cof_mem hc i x hx _ (by rw [List.drop_eq_getElem_cons h]; exact List.mem_cons_self)
 rw [List.take_succ_eq_append_getElem h, cof_append ord_ltB hlt];have e1 : cof [l[i]] n = if l[i].1 = n then l[i].2 else 0 := rfl
 rw [e1]
 by_cases hn : l[i].1 = n
 · rw [if_pos hn, if_pos hn, cof_none (l := l.take i) (fun x hx e => ord_ltB.irr n (by
     have := hlt x hx l[i] (by simp); rw [e, hn] at this; exact this))]
   exact Rat.zero_add _
 · rw [if_neg hn, if_neg hn]; exact Rat.add_zero _
/-- the coefficients that are made so far -/
structure RD [Nms] (F : Nat) (zM g : Int) (d : Nat) (cs r : List (List UInt8 × Rat)) (i : Nat) : Prop where
 can : Can ltB r
 nm : ∀ x ∈ r, x.1 ∈ Nms.U
 lt : ∀ x ∈ r, ∀ y ∈ cs.drop i, ltB x.1 y.1
 ds : ∀ x ∈ r, DS d x.2
 eq : ∀ n, cof r n = ((rsD F zM (cof (cs.take i) n) / g : Int) : Rat)
theorem rsD_zero (F : Nat) (zM : Int) : rsD F zM 0 = 0 := by
 unfold rsD;rw [Rat.zero_mul];exact Int.zero_emod zM
theorem RD.start [Nms] (F : Nat) (zM g : Int) (d : Nat) (cs : List (List UInt8 × Rat)) : RD F zM g d cs [] 0 :=
 ⟨trivial, fun x hx => (List.not_mem_nil hx).elim, fun x hx => (List.not_mem_nil hx).elim, fun x hx => (List.not_mem_nil hx).elim, fun n => by
   show (0 : Rat) = ((rsD F zM 0 / g : Int) : Rat)
   rw [rsD_zero, Int.zero_ediv]; rfl⟩
theorem RD.step [Nms] {F : Nat} {zM g : Int} {d e : Nat} {cs r : List (List UInt8 × Rat)} {i : Nat} (h : RD F zM g d cs r i) (hc : Good e cs) (hi : i < cs.length) {q : Int} (hq : rsD F zM cs[i].2 / g = q) (hd : DS d (q : Rat)) : RD F zM g d cs (if q = 0 then r else r ++ [(cs[i].1, (q : Rat))]) (i + 1) := by
 have hdr : ∀ y ∈ cs.drop (i + 1), y ∈ cs.drop i := fun y hy => by rw [List.drop_eq_getElem_cons hi]; exact List.mem_cons_of_mem _ hy
 have hm : cs[i] ∈ cs.drop i := by rw [List.drop_eq_getElem_cons hi]; exact List.mem_cons_self
 have hlt : ∀ x ∈ r, ltB x.1 cs[i].1 := fun x hx => h.lt x hx _ hm
 have hnx : ∀ y ∈ cs.drop (i + 1), ltB cs[i].1 y.1 := cof_mem hc.can (i + 1) cs[i] (by rw [List.take_succ_eq_append_getElem hi]; exact List.mem_append.2 (.inr (List.mem_singleton.2 rfl)));have hr0 : cof r cs[i].1 = 0 := cof_none fun x hx e => ord_ltB.irr cs[i].1 (by have := hlt x hx; rw [e] at this; exact this)
 have hone : ∀ x ∈ r, ∀ y ∈ [(cs[i].1, (q : Rat))], ltB x.1 y.1 := fun x hx y hy => by rw [List.mem_singleton.1 hy]; exact hlt x hx
 have heq : ∀ n, (cof r n + if cs[i].1 = n then (q : Rat) else 0) = ((rsD F zM (cof (cs.take (i + 1)) n) / g : Int) : Rat) := fun n => by
  rw [cof_take_succ hc.can hi]
  by_cases hn : cs[i].1 = n
  · rw [if_pos hn, if_pos hn, hq, ← hn, hr0]; exact Rat.zero_add _
  · rw [if_neg hn, if_neg hn, ← h.eq n]; exact Rat.add_zero _
 by_cases h0 : q = 0
 · rw [if_pos h0];refine ⟨h.can, h.nm, fun x hx y hy => h.lt x hx y (hdr y hy), h.ds, fun n => ?_⟩;rw [← heq n, h0];have e3 : (if cs[i].1 = n then ((0 : Int) : Rat) else 0) = 0 := by split <;> rfl
   rw [e3, Rat.add_zero]
 · rw [if_neg h0];have hq0 : (q : Rat) ≠ 0 := fun e => h0 (Rat.intCast_inj.1 (show ((q : Int) : Rat) = ((0 : Int) : Rat) from e))
   refine ⟨can_append h.can ⟨hq0, fun x hx => (List.not_mem_nil hx).elim, trivial⟩ hone, fun x hx => ?_, fun x hx y hy => ?_, fun x hx => ?_, fun n => ?_⟩
   · rcases List.mem_append.1 hx with h1 | h1
     · exact h.nm x h1
     · rw [List.mem_singleton.1 h1]; exact hc.nm cs[i] (List.getElem_mem hi)
   · rcases List.mem_append.1 hx with h1 | h1
     · exact h.lt x h1 y (hdr y hy)
     · rw [List.mem_singleton.1 h1]; exact hnx y hy
   · rcases List.mem_append.1 hx with h1 | h1
     · exact h.ds x h1
     · rw [List.mem_singleton.1 h1]; exact hd
   · rw [cof_append ord_ltB hone]; exact heq n
theorem RD.good [Nms] {F : Nat} {zM g : Int} {d : Nat} {cs r : List (List UInt8 × Rat)} {i : Nat} (h : RD F zM g d cs r i) : Good d r := ⟨h.can, h.nm, h.ds⟩
theorem rs_div {F : Nat} {zM g : Int} (h : 0 < zM) (hg : 0 < g) (q : Rat) {d : Nat} (hd : DS d (zM : Rat)) : DS d ((rsD F zM q / g : Int) : Rat) := by
 have h1 := Int.emod_nonneg (q * ((F : Nat) : Rat)).num (show zM ≠ 0 by omega);have h2 := Int.emod_lt_of_pos (q * ((F : Nat) : Rat)).num h;have h3 : 0 ≤ rsD F zM q / g := Int.ediv_nonneg h1 (by omega);have h4 : rsD F zM q / g ≤ rsD F zM q := Int.ediv_le_self _ h1;have h5 := hd.1;rw [Rat.num_intCast] at h5;refine DS.int ?_;have : rsD F zM q < zM := h2
 omega
/-- .. the constraint in N, with the coefficients made so far -/
structure PN (w wr : World) (D M G N : Nat) (r : Int) (a1 : Option Addr) (n1 c1 : Nat) (t1 tm tb tv : ByteArray) (C1 C2 C3 : Array Value) (zd zm zg : Int) (v v' : Value) (rs : List (List UInt8 × Rat)) : Prop where
 pg : PG w wr D M G r a1 n1 c1 t1 tm C1 C2 C3 zd zm zg
 hn : wr.heap[N]? = some (.cells #[.int .i64 r, .int .i64 2, v, .string tb, .string tv] 39 (0, 0))
 row : wr.ownsRow (N + 1) 79 2 v' rs.length (flat rs)
 l4 : G < N
theorem PG.kept {w wr w' : World} {D M G : Nat} {r : Int} {a1 : Option Addr} {n1 c1 : Nat} {t1 tm : ByteArray} {C1 C2 C3 : Array Value} {zd zm zg : Int} (h : PG w wr D M G r a1 n1 c1 t1 tm C1 C2 C3 zd zm zg) (hs : ∀ g, g ≤ G → w'.heap[g]? = wr.heap[g]?) (hw : Words wr w') (hb : Below w.heap.size w w') : PG w w' D M G r a1 n1 c1 t1 tm C1 C2 C3 zd zm zg := by
 have h1 := h.pm.pd.l1;have h2 := h.pm.l2;have h3 := h.l3;exact ⟨⟨⟨(hs _ (by omega)).trans h.pm.pd.a, (hs _ (by omega)).trans h.pm.pd.r, (hs _ (by omega)).trans h.pm.pd.hd, h.pm.pd.vd.kept hw, h1, hb⟩, (hs _ (by omega)).trans h.pm.hm, h.pm.vm.kept hw, h2⟩, (hs _ (by omega)).trans h.hg, h.vg.kept hw, h3⟩
theorem PN.far {w wr w' : World} {D M G N : Nat} {r : Int} {a1 : Option Addr} {n1 c1 : Nat} {t1 tm tb tv : ByteArray} {C1 C2 C3 : Array Value} {zd zm zg : Int} {v v' : Value} {rs : List (List UInt8 × Rat)} (h : PN w wr D M G N r a1 n1 c1 t1 tm tb tv C1 C2 C3 zd zm zg v v' rs) (hb : Below wr.heap.size wr w') : PN w w' D M G N r a1 n1 c1 t1 tm tb tv C1 C2 C3 zd zm zg v v' rs :=
 ⟨h.pg.far hb, (hb.block _ (ab h.hn)).trans h.hn, row_same h.row fun g hg => hb.block _ (h.row.lt g hg).2, h.l4⟩
/-- a store into a number's block aI them -/
theorem PN.but {w wr w' : World} {D M G N : Nat} {r : Int} {a1 : Option Addr} {n1 c1 : Nat} {t1 tm tb tv : ByteArray} {C1 C2 C3 : Array Value} {zd zm zg : Int} {v v' : Value} {rs : List (List UInt8 × Rat)} (h : PN w wr D M G N r a1 n1 c1 t1 tm tb tv C1 C2 C3 zd zm zg v v' rs) {R : Nat} {cs : Array Value} {fr : Nat × Nat} (hR : wr.heap[R]? = some (.cells cs 83 fr)) (hl : N < R) (ho : ∀ g, g ≠ R → w'.heap[g]? = wr.heap[g]?) (hb : Below w.heap.size w w') : PN w w' D M G N r a1 n1 c1 t1 tm tb tv C1 C2 C3 zd zm zg v v' rs := by
 have h4 := h.l4;refine ⟨h.pg.but hR (by decide) (by omega) ho hb, (ho _ (by omega)).trans h.hn, row_same h.row fun g hg => ho g fun e => ?_, h4⟩;rcases h.row.2 with ⟨rfl, _⟩ | ⟨g', cap', cur, rfl, _, hgg, _⟩
 · cases hg
 · injection hg with hg;have hg' : g' = R := Eq.trans hg e;rw [hg', hR] at hgg;cases hgg
theorem PN.grow {w wr w1 : World} {D M G N : Nat} {r : Int} {a1 : Option Addr} {n1 c1 : Nat} {t1 tm tb tv : ByteArray} {C1 C2 C3 : Array Value} {zd zm zg : Int} {v v' : Value} {rs : List (List UInt8 × Rat)} {x : List UInt8 × Rat} (h : PN w wr D M G N r a1 n1 c1 t1 tm tb tv C1 C2 C3 zd zm zg v v rs) (hg : wr.grownBy w1 v.ownBlock) (hr : w1.ownsRow (N + 1) 79 2 v' (rs.length + 1) (flat rs ++ [.string ⟨x.1.toArray⟩, .string (TX x.2)])) : PN w w1 D M G N r a1 n1 c1 t1 tm tb tv C1 C2 C3 zd zm zg v v' (rs ++ [x]) := by
 have h1 := h.pg.pm.pd.l1;have h2 := h.pg.pm.l2;have h3 := h.pg.l3;have h4 := h.l4;have hlt := ab h.hn;have hne : ∀ g, g ≤ N → some g ≠ v.ownBlock := fun g hgS e => by have := (h.row.lt g e.symm).1; omega
 have hbel : Below w.heap.size w w1 := h.pg.pm.pd.bel.grown hg h.pg.pm.pd.bel.size fun g e => by have := (h.row.lt g e).1; omega
 refine ⟨h.pg.kept (fun g hgs => hg.block g (by omega) (hne g (by omega))) (words_grown hg h.row) hbel, (hg.block N hlt (hne N (Nat.le_refl _))).trans h.hn, ?_, h4⟩;rw [List.length_append, flat_append];exact hr
theorem PN.set {w wr : World} {D M G N : Nat} {r : Int} {a1 : Option Addr} {n1 c1 : Nat} {t1 tm tb tv : ByteArray} {C1 C2 C3 : Array Value} {zd zm zg : Int} {v v' : Value} {rs : List (List UInt8 × Rat)} (h : PN w wr D M G N r a1 n1 c1 t1 tm tb tv C1 C2 C3 zd zm zg v v' rs) : PN w (wr.setCell ⟨N, 2, none⟩ v') D M G N r a1 n1 c1 t1 tm tb tv C1 C2 C3 zd zm zg v' v' rs := by
 have h1 := h.pg.pm.pd.l1;have h2 := h.pg.pm.l2;have h3 := h.pg.l3;have h4 := h.l4;have hset : ∀ g, g ≠ N → (wr.setCell ⟨N, 2, none⟩ v').heap[g]? = wr.heap[g]? := fun g hgS => Below.heap_setCell _ _ _ _ hgS
 refine ⟨h.pg.kept (fun g hgs => hset g (by omega)) (words_but h.hn (by decide) fun g _ hgS => hset g hgS) (h.pg.pm.pd.bel.setCell (show w.heap.size ≤ N by omega) _), ?_, ?_, h4⟩
 · have := heap_setCell_same wr N 2 _ _ v' h.hn;exact this
 · exact ownsRow_setCell_below h.row (a := ⟨N, 2, none⟩) (show N < N + 1 by omega) v'
end Go.Proofs.YteoklapcifonaaaGreatDoor

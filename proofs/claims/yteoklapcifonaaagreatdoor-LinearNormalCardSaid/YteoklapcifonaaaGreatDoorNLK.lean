/- The positive number that makes coefficients integers without a common divisor. -/
import Derived.Test.YteoklapcifonaaaGreatDoorNLA
import Derived.Test.YteoklapcifonaaaGreatDoorNLJ
open Go.Lib (hid)
namespace Go.Proofs.YteoklapcifonaaaGreatDoor
section
variable {K : Type}
/-- k makes the coefficients integers without a common divisor -/
structure IsPrim (k : Rat) (l : List (K × Rat)) : Prop where
 pos : 0 < k
 int : ∀ x ∈ l, (k * x.2).den = 1
 one : ∀ m : Nat, (∀ x ∈ l, m ∣ (k * x.2).num.natAbs) → m = 1
theorem num_den (q : Rat) : (q.num : Rat) / ((q.den : Nat) : Rat) = q := by
 have h := Rat.num_divInt_den q;rw [Rat.divInt_eq_div, Rat.intCast_natCast] at h;exact h
theorem den_ne (q : Rat) : ((q.den : Nat) : Rat) ≠ 0 := by
 rw [← Rat.intCast_natCast];intro e;have := Rat.intCast_eq_zero_iff.1 e;have := q.den_pos
 omega
theorem mul_den (q : Rat) : q * ((q.den : Nat) : Rat) = (q.num : Rat) := by
 have h := num_den q;have hd := den_ne q;generalize ((q.den : Nat) : Rat) = d at *;generalize (q.num : Rat) = n at *;rw [← h, Rat.div_def, Rat.mul_assoc, Rat.inv_mul_cancel _ hd, Rat.mul_one]
theorem rat_int {q : Rat} (h : q.den = 1) : q = ((q.num : Int) : Rat) := by
 have := mul_den q;rw [h] at this;rw [← this]
 grind
def scl (f : Rat) (l : List (K × Rat)) : List (K × Rat) := l.map fun x => (x.1, f * x.2)
/-- the least common multiple of the denominators -/
def ar (D : Nat) : List (K × Rat) → Nat
 | [] => D
 | x :: l => ar (Nat.lcm D x.2.den) l
/-- the greatest common divisor of what they are then -/
def numL (D g : Nat) : List (K × Rat) → Nat
 | [] => g
 | x :: l => numL D (Nat.gcd g (x.2 * D).num.natAbs) l
theorem denL_dvd (l : List (K × Rat)) : ∀ D : Nat, D ∣ ar D l ∧ ∀ x ∈ l, x.2.den ∣ ar D l := by
 induction l with
 | nil => exact fun D => ⟨Nat.dvd_refl _, fun x hx => (List.not_mem_nil hx).elim⟩
 | cons y l ih =>
   intro D;obtain ⟨h1, h2⟩ := ih (Nat.lcm D y.2.den);refine ⟨Nat.dvd_trans (Nat.dvd_lcm_left _ _) h1, fun x hx => ?_⟩;rcases List.mem_cons.1 hx with rfl | hx
   · exact Nat.dvd_trans (Nat.dvd_lcm_right _ _) h1
   · exact h2 x hx
theorem denL_pos (l : List (K × Rat)) : ∀ D : Nat, 0 < D → 0 < ar D l := by
 induction l with
 | nil => exact fun D h => h
 | cons y l ih => exact fun D h => ih _ (Nat.lcm_pos h y.2.den_pos)
theorem numL_dvd (D : Nat) (l : List (K × Rat)) : ∀ g : Nat, numL D g l ∣ g ∧ (∀ x ∈ l, numL D g l ∣ (x.2 * D).num.natAbs) ∧ ∀ m, m ∣ g → (∀ x ∈ l, m ∣ (x.2 * D).num.natAbs) → m ∣ numL D g l := by
 induction l with
 | nil => exact fun g => ⟨Nat.dvd_refl _, fun x hx => (List.not_mem_nil hx).elim, fun m h _ => h⟩
 | cons y l ih =>
   intro g;obtain ⟨h1, h2, h3⟩ := ih (Nat.gcd g (y.2 * D).num.natAbs);refine ⟨Nat.dvd_trans h1 (Nat.gcd_dvd_left _ _), fun x hx => ?_, fun m hg hm => h3 m (Nat.dvd_gcd hg (hm y (by simp))) fun x hx => hm x (by simp [hx])⟩;rcases List.mem_cons.1 hx with rfl | hx
   · exact Nat.dvd_trans h1 (Nat.gcd_dvd_right _ _)
   · exact h2 x hx
theorem mul_den_int {q : Rat} {D : Nat} (h : q.den ∣ D) : (q * D).den = 1 := by
 obtain ⟨m, rfl⟩ := h
 have : q * ((q.den * m : Nat) : Rat) = ((q.num * m : Int) : Rat) := by
  have e := mul_den q;rw [Rat.intCast_mul, ← e];have h1 : ((q.den * m : Nat) : Rat) = (q.den : Rat) * (m : Rat) := Rat.natCast_mul _ _;have h2 : ((m : Int) : Rat) = (m : Rat) := Rat.intCast_natCast m;rw [h1, h2]; grind
 rw [this]; rfl
theorem prim_is {l : List (K × Rat)} (hl : l ≠ []) (hz : ∀ x ∈ l, x.2 ≠ 0) : 0 < numL (ar 1 l) 0 l ∧ IsPrim ((ar 1 l : Nat) / (numL (ar 1 l) 0 l : Nat) : Rat) l := by
 obtain ⟨-, hd⟩ := denL_dvd l 1;have hp := denL_pos l 1 (by omega);generalize ar 1 l = D at *;obtain ⟨-, hg, hgm⟩ := numL_dvd D l 0
 have hD : (D : Rat) ≠ 0 := by
  intro e;have : ((D : Int) : Rat) = ((0 : Int) : Rat) := by simpa using e
  have := Rat.intCast_inj.1 this
  omega
 have hnz : ∀ x ∈ l, (x.2 * D).num.natAbs ≠ 0 := by
  intro x hx e;have h1 : (x.2 * D).num = 0 := by omega
  have h2 := Rat.num_eq_zero.1 h1;rcases Rat.mul_eq_zero.1 h2 with h3 | h3
  · exact hz x hx h3
  · exact hD h3
 have hgp : 0 < numL D 0 l := by
  cases l with
  | nil => exact absurd rfl hl
  | cons y l =>
    rcases Nat.eq_zero_or_pos (numL D 0 (y :: l)) with h0 | h0
    · have := hg y (by simp);rw [h0] at this;exact absurd (Nat.eq_zero_of_zero_dvd this) (hnz y (by simp))
    · exact h0
 refine ⟨hgp, ?_⟩;generalize numL D 0 l = G at *
 have hG : (G : Rat) ≠ 0 := by
  intro e;have : ((G : Int) : Rat) = ((0 : Int) : Rat) := by simpa using e
  have := Rat.intCast_inj.1 this
  omega
 have hcast : ∀ n : Nat, (n : Rat) = ((n : Int) : Rat) := fun n => (Rat.intCast_natCast n).symm
 have hval : ∀ x ∈ l, ∃ z : Int, (D : Rat) / (G : Rat) * x.2 = (z : Rat) ∧ (x.2 * D).num = G * z := by
  intro x hx;have h1 := rat_int (mul_den_int (hd x hx));obtain ⟨z, hz⟩ : (G : Int) ∣ (x.2 * D).num := Int.natAbs_dvd_natAbs.1 (by rw [Int.natAbs_natCast]; exact hg x hx);refine ⟨z, ?_, hz⟩;rw [hz, Rat.intCast_mul, ← hcast] at h1
  grind
 refine ⟨?_, fun x hx => ?_, fun m hm => ?_⟩
 · rw [Rat.div_def];refine Rat.mul_pos ?_ (Rat.inv_pos.2 ?_)
   iterate 2
    · rw [hcast]; exact Rat.intCast_pos.2 (by omega)
 · obtain ⟨z, hz, _⟩ := hval x hx;rw [hz]; rfl
 · have h1 : m * G ∣ G := hgm (m * G) (Nat.dvd_zero _) fun x hx => by
     obtain ⟨z, hz, hz2⟩ := hval x hx;have := hm x hx;rw [hz] at this;rw [hz2, Int.natAbs_mul, Int.natAbs_natCast, Nat.mul_comm];exact Nat.mul_dvd_mul (Nat.dvd_refl _) this
   have h2 := Nat.le_of_dvd hgp h1;rcases Nat.lt_or_ge 1 m with h3 | h3
   · have : 2 * G ≤ m * G := Nat.mul_le_mul_right _ h3
     omega
   · rcases Nat.eq_zero_or_pos m with h4 | h4
     · subst h4;rw [Nat.zero_mul] at h1;have := Nat.eq_zero_of_zero_dvd h1
       omega
     · omega
end
end Go.Proofs.YteoklapcifonaaaGreatDoor
/- The least common multiple; the number that makes coefficients integers without a common divisor. -/
namespace Go.Proofs.YteoklapcifonaaaGreatDoor
open Go.RowKit Nmx
theorem IV.but {w w' : World} {v : Value} {z : Int} (h : IV w v z) {R : Nat} {cs : Array Value} {t : TypeId} {fr : Nat × Nat} (hR : w.heap[R]? = some (.cells cs t fr)) (ht : t ≠ 145) (ho : ∀ g, g ≠ R → w'.heap[g]? = w.heap[g]?) : IV w' v z :=
 h.kept (words_but hR ht fun g _ hg => ho g hg)
/-- the boxes of lcm -/
structure MB (w W : World) (A B : Array Value) : Prop where
 a : W.heap[w.heap.size]? = some (.cells A 83 (0, 0))
 b : W.heap[w.heap.size + 1]? = some (.cells B 83 (0, 0))
 r : W.heap[w.heap.size + 2]? = some (.cells #[.int .i64 0, .bool false, .slice none 0 0] 83 (0, 0))
 bel : Below w.heap.size w W
theorem MB.far {w W W' : World} {A B : Array Value} (h : MB w W A B) (hb : Below W.heap.size W W') : MB w W' A B :=
 ⟨(hb.block _ (ab h.a)).trans h.a, (hb.block _ (ab h.b)).trans h.b, (hb.block _ (ab h.r)).trans h.r, h.bel.trans (hb.mono h.bel.size)⟩
theorem MB.but {w W W' : World} {A B : Array Value} (h : MB w W A B) {R : Nat} (hl : w.heap.size + 2 < R) (ho : ∀ g, g ≠ R → W'.heap[g]? = W.heap[g]?) (hs : W.heap.size ≤ W'.heap.size) (h1 : W'.os = W.os) (h2 : W'.tape = W.tape) (h3 : W'.output = W.output) : MB w W' A B :=
 ⟨(ho _ (by omega)).trans h.a, (ho _ (by omega)).trans h.b, (ho _ (by omega)).trans h.r, ⟨h1.trans h.bel.os, h2.trans h.bel.tape, h3.trans h.bel.output, Nat.le_trans h.bel.size hs, fun k hk => (ho k (by omega)).trans (h.bel.block k hk)⟩⟩
def IntShape (v : Value) : Prop := ∃ s b ao n c, v = .agg #[.int .i64 s, .bool b, .slice ao n c]
theorem IV.shape {w : World} {v : Value} {z : Int} (h : IV w v z) : IntShape v := ae h
def PairShape (v : Value) : Prop := ∃ v1 v2, v = .tuple #[v1, v2] ∧ IntShape v1 ∧ IntShape v2
theorem lcm_int (a b : Nat) : (a : Int) / ((Int.gcd a b : Nat) : Int) * (b : Int) = ((Nat.lcm a b : Nat) : Int) := by
 rw [Int.gcd_natCast_natCast, ← Int.natCast_ediv, ← Int.natCast_mul]
 congr 1
 unfold Nat.lcm;rw [Nat.mul_comm a b, Nat.mul_div_assoc _ (Nat.gcd_dvd_left a b), Nat.mul_comm]
theorem words_below {w W : World} (h : Below w.heap.size w W) : Words w W := fun _ _ _ hg => (h.block _ (ab hg)).trans hg
/-- an integer that is stored into the result's box is handed back -/
theorem end_int3 {fn : Func} {t : Tmp} {a : Act} {w2 : World} {R : Nat} {s : Int} {b : Bool} {ao : Option Addr} {n c : Nat} {post : Ending → World → Prop} {y0 y1 y2 : Value} (hres : fn.results = #[.cell t 83]) (hd : a.defers = []) (ht : a.tmps.getD t undef = .pointer (some ⟨R, 0, none⟩))
    (hR : w2.heap[R]? = some (.cells #[y0, y1, y2] 83 (0, 0))) (h : post (.returned (.agg #[.int .i64 s, .bool b, .slice ao n c])) (((w2.setCell ⟨R, 0, none⟩ (.int .i64 s)).setCell ⟨R, 1, none⟩ (.bool b)).setCell ⟨R, 2, none⟩ (.slice ao n c))) :
    bodyPost Tryz.prog fn post .ret a (((w2.setCell ⟨R, 0, none⟩ (.int .i64 s)).setCell ⟨R, 1, none⟩ (.bool b)).setCell ⟨R, 2, none⟩ (.slice ao n c)) := by
 have h3 := aU (x := .int .i64 s) (y := .bool b) (z := .slice ao n c) hR;generalize ((w2.setCell ⟨R, 0, none⟩ (.int .i64 s)).setCell ⟨R, 1, none⟩ (.bool b)).setCell ⟨R, 2, none⟩ (.slice ao n c) = w3 at *;have k0 := aa h3 0;have k1 := aa h3 1;have k2 := aa h3 2
 simp at k0 k1 k2
 refine bodyPost_ret (v := .agg #[.int .i64 s, .bool b, .slice ao n c]) ?_ hd h;have ht' : a.tmps[t]?.getD undef = .pointer (some ⟨R, 0, none⟩) := by simpa using ht
 simp [results, hres, go_sem, ht', k0, k1, k2]
section
set_option maxRecDepth 100000
set_option maxHeartbeats 4000000
theorem lcmI {va vb : Value} {a b : Nat} {w : World} (ha : IV w va a) (hb : IV w vb b) (h0 : 0 < a) (fa : Fit a) (fb : Fit b) :
    Calls Tryz.prog 117 #[va, vb] w (aY (Nat.lcm a b : Nat) w) := by
 have hg0 : Int.gcd a b ≠ 0 := by rw [Int.gcd_natCast_natCast]; have := Nat.gcd_pos_of_pos_left b h0; omega
 have fg : Fit (Int.gcd a b : Nat) := fit_le fa (n := Int.gcd a b) (by rw [Int.gcd_natCast_natCast]; exact Nat.le_of_dvd (by simpa using h0) (by simpa using Nat.gcd_dvd_left a b)) rfl
 have fq : Fit ((a : Int) / (Int.gcd a b : Nat)) := by
  rw [Int.gcd_natCast_natCast, ← Int.natCast_ediv];exact fit_le fa (n := a / Nat.gcd a b) (by simpa using Nat.div_le_self a _) rfl
 have hgc : ∀ W, Below w.heap.size w W → Calls Tryz.prog 116 #[va, vb] W (aY (Int.gcd a b : Nat) W) := fun W hW => gcd_any va vb a b W (ha.far hW) (hb.far hW) fa fb
 have hqr : ∀ W u, Below w.heap.size w W → IV W u (Int.gcd a b : Nat) → Calls Tryz.prog 121 #[va, u] W (QRPost a (Int.gcd a b : Nat) W) := fun W u hW hu => quoRem_any va u a _ W (ha.far hW) hu fa fg (by omega)
 have hmu : ∀ W u, Words w W → IV W u ((a : Int) / (Int.gcd a b : Nat)) → Calls Tryz.prog 108 #[u, vb] W (aY (Nat.lcm a b : Nat) W) := fun W u hW hu => by
  rw [← lcm_int];exact mul_any u vb _ _ W hu (hb.kept hW) fq fb
 obtain ⟨s1, b1, a1, n1, c1, rfl⟩ := ae ha;obtain ⟨s2, b2, a2, n2, c2, rfl⟩ := ae hb;obtain ⟨m1, m2, m3, mb⟩ := newL3 w (.cells #[.int .i64 s1, .bool b1, .slice a1 n1 c1] 83) (.cells #[.int .i64 s2, .bool b2, .slice a2 n2 c2] 83) (.cells #[.int .i64 0, .bool false, .slice none 0 0] 83);have HK := hid (⟨m1, m2, m3, mb⟩ : MB w _ #[.int .i64 s1, .bool b1, .slice a1 n1 c1] #[.int .i64 s2, .bool b2, .slice a2 n2 c2]);have HGC := hid hgc;have HQR := hid hqr;have HMU := hid hmu;obtain ⟨zg, hzg⟩ : ∃ zg : Int, ((Int.gcd a b : Nat) : Int) = zg := ⟨_, rfl⟩
 rw [hzg] at HGC HQR HMU;obtain ⟨zq, hzq⟩ : ∃ zq : Int, (a : Int) / zg = zq := ⟨_, rfl⟩
 rw [hzq] at HMU;obtain ⟨zr, hzr⟩ : ∃ zr : Int, (a : Int) % zg = zr := ⟨_, rfl⟩
 unfold QRPost at HQR;rw [hzq, hzr] at HQR;obtain ⟨zl, hzl⟩ : ∃ zl : Int, ((Nat.lcm a b : Nat) : Int) = zl := ⟨_, rfl⟩
 rw [hzl] at HMU ⊢;clear m1 m2 m3 mb hgc hqr hmu ha hb fa fb fg fq hg0 h0 hzg hzq hzr hzl
 go_enter Tryz.func117, Tryz.ntmps117
 go_wp2_with fail
 generalize (((w.alloc (.cells #[.int .i64 s1, .bool b1, .slice a1 n1 c1] 83)).alloc (.cells #[.int .i64 s2, .bool b2, .slice a2 n2 c2] 83)).alloc (.cells #[.int .i64 0, .bool false, .slice none 0 0] 83)) = w3 at *;refine aF [[], [], [], [1, 2], [0, 1, 2, 3], [0, 1, 2, 3, 4], [0, 1, 2, 3, 4, 5], [0, 1, 2, 3, 4, 5], [], [], [0, 1, 2, 3, 4, 5, 6, 8, 9], [0, 1, 2, 3, 4, 5, 6, 7, 8, 9, 10]] (fun W => MB w W #[.int .i64 s1, .bool b1, .slice a1 n1 c1] #[.int .i64 s2, .bool b2, .slice a2 n2 c2]) (fun _ => True) ?_
 iterate 3
  apply aM
  · intro x; go_simp; done
  · intro x W R hW hF hR;have p0 := aa hW.a 0;have p1 := aa hW.a 1;have p2 := aa hW.a 2;have q0 := aa hW.b 0;have q1 := aa hW.b 1;have q2 := aa hW.b 2;clear hF;unfold ag
    go_simp
    simp only [ac];exact hR _ (Below.refl _ _)
  simp only [Act.put, List.setIfInBounds_toArray, List.set_cons_zero, List.set_cons_succ]
 refine ba (fun v W => IV W v (zg)) (fun _ _ _ h hb => h.far hb) ?_ ?_ ?_
 · intro x; go_simp; done
 · intro x W R hW hF hR;clear hF;unfold ag
   go_simp
   simp only [ac];refine (HGC.out W hW.bel).mono ?_;rintro e w' ⟨v, rfl, hv, hb⟩;exact ⟨v, rfl, hR _ _ hv hb⟩
 simp only [Act.put, List.setIfInBounds_toArray, List.set_cons_zero, List.set_cons_succ, List.length_cons, List.length_nil, Nat.zero_add, Nat.reduceAdd];refine a_opqF (PairShape) (fun v W => ∃ v1 v2, v = .tuple #[v1, v2] ∧ IV W v1 zq ∧ IV W v2 zr) (fun _ _ _ h hb => let ⟨v1, v2, h1, h2, h3⟩ := h; ⟨v1, v2, h1, h2.far hb, h3.far hb⟩) ?_ ?_ ?_
 · intro x; go_simp; done
 · intro x W R hW hF hR;have hu := hF.1.2 rfl rfl rfl;simp only [AK.fact] at hu;clear hF;unfold ag
   go_simp
   simp only [ac];refine (HQR.out W _ hW.bel hu).mono ?_;rintro e w' ⟨v1, v2, rfl, hv1, hv2, hb⟩;exact ⟨_, rfl, hR _ _ ⟨v1, v2, rfl, hv1.shape, hv2.shape⟩ ⟨v1, v2, rfl, hv1, hv2⟩ hb⟩
 simp only [Act.put, List.setIfInBounds_toArray, List.set_cons_zero, List.set_cons_succ, List.length_cons, List.length_nil, Nat.zero_add, Nat.reduceAdd];refine a_opqF (PairShape) (fun v W => ∃ v1 v2, v = .tuple #[v1, v2] ∧ IV W v1 zq ∧ IV W v2 zr) (fun _ _ _ h hb => let ⟨v1, v2, h1, h2, h3⟩ := h; ⟨v1, v2, h1, h2.far hb, h3.far hb⟩) ?_ ?_ ?_
 · intro x; go_simp; done
 · intro x W R hW hF hR;have hu := hF.1.2 rfl rfl rfl;have hs := hF.1.1 rfl;simp only [AK.fact] at hu;simp only [AK.free] at hs;clear hF;unfold ag
   go_simp
   simp only [ac];exact hR _ _ hs hu (Below.refl _ _)
 simp only [Act.put, List.setIfInBounds_toArray, List.set_cons_zero, List.set_cons_succ, List.length_cons, List.length_nil, Nat.zero_add, Nat.reduceAdd];refine ba (fun v W => IV W v (zq)) (fun _ _ _ h hb => h.far hb) ?_ ?_ ?_
 · intro x; go_simp; done
 · intro x W R hW hF hR;have hu := hF.1.2 rfl rfl rfl;simp only [AK.fact] at hu;obtain ⟨v1, v2, hx, hv1, hv2⟩ := hu;simp only [hx];clear hF;unfold ag
   go_simp
   simp only [ac];exact hR _ _ hv1 (Below.refl _ _)
 simp only [Act.put, List.setIfInBounds_toArray, List.set_cons_zero, List.set_cons_succ, List.length_cons, List.length_nil, Nat.zero_add, Nat.reduceAdd];refine a_fre (IntShape) ?_ ?_ ?_
 · intro x; go_simp; done
 · intro x W R hW hF hR;have hs := hF.2.1.1 rfl;simp only [AK.free] at hs;obtain ⟨v1, v2, hx, hs1, hs2⟩ := hs;simp only [hx];clear hF;unfold ag
   go_simp
   simp only [ac];exact hR _ _ hs2 (Below.refl _ _)
 simp only [Act.put, List.setIfInBounds_toArray, List.set_cons_zero, List.set_cons_succ, List.length_cons, List.length_nil, Nat.zero_add, Nat.reduceAdd];refine a_new (fun B W => w.heap.size + 2 < B ∧ W.heap[B]? = some (.cells #[.int .i64 0, .bool false, .slice none 0 0] 83 (0, 0))) (fun _ _ _ h hb => ⟨h.1, (hb.block _ (ab h.2)).trans h.2⟩) ?_ ?_ ?_
 · intro x; go_simp; done
 · intro x W R hW hF hR;clear hF;unfold ag
   go_simp
   simp only [ac];exact hR _ ⟨ab hW.r, heap_alloc_new _ _⟩ ((Below.refl _ _).alloc (Nat.le_refl _) _) (by simp)
 simp only [Act.put, List.setIfInBounds_toArray, List.set_cons_zero, List.set_cons_succ, List.length_cons, List.length_nil, Nat.zero_add, Nat.reduceAdd];refine a_new (fun B W => w.heap.size + 2 < B ∧ W.heap[B]? = some (.cells #[.int .i64 0, .bool false, .slice none 0 0] 83 (0, 0))) (fun _ _ _ h hb => ⟨h.1, (hb.block _ (ab h.2)).trans h.2⟩) ?_ ?_ ?_
 · intro x; go_simp; done
 · intro x W R hW hF hR;clear hF;unfold ag
   go_simp
   simp only [ac];exact hR _ ⟨ab hW.r, heap_alloc_new _ _⟩ ((Below.refl _ _).alloc (Nat.le_refl _) _) (by simp)
 simp only [Act.put, List.setIfInBounds_toArray, List.set_cons_zero, List.set_cons_succ, List.length_cons, List.length_nil, Nat.zero_add, Nat.reduceAdd];refine a_wrt (fun x W => ∃ B8 B9 C8, x 8 = .pointer (some ⟨B8, 0, none⟩) ∧ x 9 = .pointer (some ⟨B9, 0, none⟩) ∧ B8 ≠ B9 ∧ w.heap.size + 2 < B8 ∧ w.heap.size + 2 < B9 ∧ W.heap[B8]? = some (.cells C8 83 (0, 0)) ∧ IV W (.agg C8) zq ∧ W.heap[B9]? = some (.cells #[.int .i64 0, .bool false, .slice none 0 0] 83 (0, 0)) ∧ MB w W #[.int .i64 s1, .bool b1, .slice a1 n1 c1] #[.int .i64 s2, .bool b2, .slice a2 n2 c2]) (fun _ _ _ h hb => let ⟨B8, B9, C8, h1, h2, h3, h4, h5, h6, h7, h8, h9⟩ := h; ⟨B8, B9, C8, h1, h2, h3, h4, h5, (hb.block _ (ab h6)).trans h6, h7.far hb, (hb.block _ (ab h8)).trans h8, h9.far hb⟩) (fun x x' w hx hT => let ⟨B8, B9, C8, h1, h2, h⟩ := hT; ⟨B8, B9, C8, (hx 8 (.inr (List.contains_iff_mem.1 rfl))).symm.trans h1, (hx 9 (.inr (List.contains_iff_mem.1 rfl))).symm.trans h2, h⟩) ?_ ?_ ?_
 · intro x; go_simp; done
 · intro x W R hW hF hD hR;have hu := hF.2.2.2.1.2 rfl rfl rfl;have h8 := hF.2.1.2 rfl rfl rfl;have h9 := hF.1.2 rfl rfl rfl;have hd := hD 8 9 (List.contains_iff_mem.1 rfl) (List.contains_iff_mem.1 rfl) (by omega) rfl rfl;simp only [AK.fact] at hu h8 h9;obtain ⟨B8, hx8, hl8, hB8⟩ := h8;obtain ⟨B9, hx9, hl9, hB9⟩ := h9;have hne : B8 ≠ B9 := fun e => hd (by rw [hx8, hx9, e])
   obtain ⟨s, b, ao, n, c, hx6⟩ := ae hu;rw [hx6] at hu;simp only [hx8, hx6];have e0 := aa hB8 0;have e1 := aa hB8 1;have e2 := aa hB8 2;have fr := fun i => ah hB8 i
   clear hF hD hd;unfold ag
   go_simp
   simp only [ac];have ho : ∀ g, g ≠ B8 → (((W.setCell ⟨B8, 0, none⟩ (.int .i64 s)).setCell ⟨B8, 1, none⟩ (.bool b)).setCell ⟨B8, 2, none⟩ (.slice ao n c)).heap[g]? = W.heap[g]? := fun g hg => aj _ _ _ hg
   exact hR _ _ ⟨B8, B9, _, (aJ (i := 10) (j := 8) _ _ (by decide)).trans hx8, (aJ (i := 10) (j := 9) _ _ (by decide)).trans hx9, hne, hl8, hl9, aU hB8, hu.but hB8 (by decide) ho, (ho _ (Ne.symm hne)).trans hB9, hW.but hl8 ho (by simp [World.setCell]) rfl rfl rfl⟩ trivial (by simp [World.setCell])
 simp only [Act.put];refine a_wrt2 (fun x W => ∃ B8 C8, x 8 = .pointer (some ⟨B8, 0, none⟩) ∧ W.heap[B8]? = some (.cells C8 83 (0, 0)) ∧ IV W (.agg C8) zq ∧ MB w W #[.int .i64 s1, .bool b1, .slice a1 n1 c1] #[.int .i64 s2, .bool b2, .slice a2 n2 c2]) (fun _ _ _ h hb => let ⟨B8, C8, h1, h6, h7, h9⟩ := h; ⟨B8, C8, h1, (hb.block _ (ab h6)).trans h6, h7.far hb, h9.far hb⟩) (fun x x' w hx hT => let ⟨B8, C8, h1, h⟩ := hT; ⟨B8, C8, (hx 8 (.inr (List.contains_iff_mem.1 rfl))).symm.trans h1, h⟩) ?_ ?_ ?_
 · intro x; go_simp; done
 · intro x W R hW hF hD hR;have hs := hF.2.2.2.1.1 rfl;have hT := hF.1.2 rfl rfl rfl;simp only [AK.fact] at hT;simp only [AK.free] at hs;obtain ⟨B8, B9, C8, hx8, hx9, hne, hl8, hl9, hB8, hI, hB9, hM⟩ := hT;obtain ⟨s, b, ao, n, c, hx7⟩ := hs;simp only [hx9, hx7];have e0 := aa hB9 0;have e1 := aa hB9 1;have e2 := aa hB9 2;have fr := fun i => ah hB9 i
   clear hF hD;unfold ag
   go_simp
   simp only [ac];have ho : ∀ g, g ≠ B9 → (((W.setCell ⟨B9, 0, none⟩ (.int .i64 s)).setCell ⟨B9, 1, none⟩ (.bool b)).setCell ⟨B9, 2, none⟩ (.slice ao n c)).heap[g]? = W.heap[g]? := fun g hg => aj _ _ _ hg
   exact hR _ _ ⟨B8, C8, (aJ (i := 11) (j := 8) _ _ (by decide)).trans hx8, (ho _ hne).trans hB8, hI.but hB9 (by decide) ho, hM.but hl9 ho (by simp [World.setCell]) rfl rfl rfl⟩ trivial (by simp [World.setCell])
 simp only [Act.put];refine a_nil (by kernel_rfl) (by kernel_rfl) (by kernel_rfl) (fun _ _ h hb => h.far hb) (fun _ _ _ _ => trivial) (fun _ _ => trivial) (HK.out.far (Below.refl _ _).drew) ?_;intro x W hE hW hF hD;clear hD;have hT := hF.1.2 rfl;simp only [AK.fact] at hT;obtain ⟨B8, C8, hx8, hB8, hI, hM⟩ := hT;obtain ⟨s, b, ao, n, c, hC8⟩ := ae hI;injection hC8 with hC8;subst hC8;have HI := hid hI;have HM := hid hM;simp only [hx8];have e0 := aa hB8 0;have e1 := aa hB8 1;have e2 := aa hB8 2;have q0 := aa hM.b 0;have q1 := aa hM.b 1;have q2 := aa hM.b 2;clear hF hW hI hM
 go_wp2_with fail
 refine (HMU.out _ _ (words_below HM.out.bel) HI.out).mono ?_;rintro e w5 ⟨v, rfl, hv, hb⟩;have HM5 := hid (HM.out.far hb);have HV := hid hv;obtain ⟨s', b', ao', n', c', rfl⟩ := ae hv;clear hv hb e0 e1 e2 q0 q1 q2;have r0 := aa HM5.out.r 0;have r1 := aa HM5.out.r 1;have r2 := aa HM5.out.r 2;have fr := fun i => ah HM5.out.r i
 go_wp2_with fail
 have ho : ∀ g, g ≠ w.heap.size + 2 → (((w5.setCell ⟨w.heap.size + 2, 0, none⟩ (.int .i64 s')).setCell ⟨w.heap.size + 2, 1, none⟩ (.bool b')).setCell ⟨w.heap.size + 2, 2, none⟩ (.slice ao' n' c')).heap[g]? = w5.heap[g]? := fun g hg => aj _ _ _ hg
 refine end_int3 rfl rfl rfl HM5.out.r ⟨_, rfl, HV.out.but HM5.out.r (by decide) ho, ?_⟩;exact ((HM5.out.bel.setCell (show w.heap.size ≤ w.heap.size + 2 by omega) _).setCell (show w.heap.size ≤ w.heap.size + 2 by omega) _).setCell (show w.heap.size ≤ w.heap.size + 2 by omega) _
end
end Go.Proofs.YteoklapcifonaaaGreatDoor

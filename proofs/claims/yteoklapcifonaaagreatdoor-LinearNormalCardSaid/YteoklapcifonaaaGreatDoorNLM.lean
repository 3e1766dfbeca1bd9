/- The number that makes coefficients integers without a common divisor: its walk. -/
import Derived.Test.YteoklapcifonaaaGreatDoorNLK
import Derived.Deep.LoopGhost
open Go.Lib (hid)
namespace Go.Proofs.YteoklapcifonaaaGreatDoor
open Go.RowKit Nmx
section
variable {K : Type}
theorem denL_snoc (l : List (K × Rat)) (x : K × Rat) : ∀ D, ar D (l ++ [x]) = Nat.lcm (ar D l) x.2.den := by
 induction l with
 | nil => exact fun D => rfl
 | cons y l ih => exact fun D => ih _
theorem numL_snoc (D : Nat) (l : List (K × Rat)) (x : K × Rat) : ∀ g, numL D g (l ++ [x]) = Nat.gcd (numL D g l) (x.2 * D).num.natAbs := by
 induction l with
 | nil => exact fun g => rfl
 | cons y l ih => exact fun g => ih _
theorem denL_le {d : Nat} (l : List (K × Rat)) (h : ∀ x ∈ l, DS d x.2) : ∀ D, ar D l ≤ D * 10 ^ (d * l.length) := by
 induction l with
 | nil => intro D; show D ≤ _; simp
 | cons y l ih =>
   intro D;have h1 := ih (fun x hx => h x (by simp [hx])) (Nat.lcm D y.2.den)
   have h2 : Nat.lcm D y.2.den ≤ D * 10 ^ d := by
    have h3 : Nat.lcm D y.2.den ≤ D * y.2.den := by
     unfold Nat.lcm; exact Nat.div_le_self _ _
    exact Nat.le_trans h3 (Nat.mul_le_mul_left _ (h y (by simp)).2)
   show ar (Nat.lcm D y.2.den) l ≤ _;refine Nat.le_trans h1 (Nat.le_trans (Nat.mul_le_mul_right _ h2) ?_);rw [List.length_cons, Nat.mul_add, Nat.mul_one, Nat.pow_add, Nat.mul_assoc, Nat.mul_comm (10 ^ d)];exact Nat.le_refl _
end
set_option exponentiation.threshold 600 in
theorem fit_ten {z : Int} {k : Nat} (h : z.natAbs ≤ 10 ^ k) (hk : k ≤ 4000) : Fit z := bV (k := 500) (ten_words h (by omega)) (by omega)
theorem fit_gcd {a b : Nat} (ha : Fit (a : Int)) (hb : Fit (b : Int)) : Fit ((Nat.gcd a b : Nat) : Int) := by
 rcases Nat.eq_zero_or_pos b with h | h
 · subst h; rw [Nat.gcd_zero_right]; exact ha
 · exact fit_le hb (n := Nat.gcd a b) (by simpa using Nat.le_of_dvd h (Nat.gcd_dvd_right a b)) rfl
/-- the number -/
def kP {K : Type} (cs : List (K × Rat)) : Rat := (ar 1 cs : Nat) / (numL (ar 1 cs) 0 cs : Nat)
theorem ds_quot {k a b : Nat} (ha : a < 10 ^ k) (h0 : 0 < b) (hb : b ≤ 10 ^ k) : DS k ((a : Nat) / (b : Nat) : Rat) := by
 have h : ((b : Nat) : Rat).num ≠ 0 := by rw [← Rat.intCast_natCast, Rat.num_intCast]; omega
 rw [← redQ_div _ _ h];have e1 : ∀ n : Nat, ((n : Nat) : Rat).num.natAbs = n := fun n => by rw [← Rat.intCast_natCast, Rat.num_intCast]; simp
 have e2 : ∀ n : Nat, ((n : Nat) : Rat).den = 1 := fun n => by rw [← Rat.intCast_natCast, Rat.den_intCast]
 rw [e1, e1, e2, e2, Nat.mul_one, Nat.one_mul];exact DS.red ha h0 hb
theorem kP_ds {K : Type} {d : Nat} {cs : List (K × Rat)} (hl : cs ≠ []) (hz : ∀ x ∈ cs, x.2 ≠ 0) (hd : ∀ x ∈ cs, DS d x.2) (hn : cs.length ≤ 8) : DS (9 * d + 2) (kP cs) := by
 have h1 := denL_le cs hd 1;have h2 : 10 ^ (d * cs.length) ≤ 10 ^ (8 * d) := Nat.pow_le_pow_right (by omega) (by rw [Nat.mul_comm]; exact Nat.mul_le_mul_right _ hn);obtain ⟨hgp, -⟩ := prim_is hl hz;have hD : ar 1 cs < 10 ^ (8 * d + 1) := Nat.lt_of_le_of_lt (by omega) (Nat.pow_lt_pow_right (by omega) (Nat.lt_succ_self (8 * d)))
 have hDS : DS (8 * d + 1) ((ar 1 cs : Nat) : Rat) := by
  have := DS.int (d := 8 * d + 1) (z := (ar 1 cs : Nat)) (by simpa using hD);rwa [Rat.intCast_natCast] at this
 obtain ⟨-, hg, -⟩ := numL_dvd (ar 1 cs) cs 0
 have hG : numL (ar 1 cs) 0 cs < 10 ^ (9 * d + 1) := by
  cases cs with
  | nil => exact absurd rfl hl
  | cons x l =>
    have h3 := ((hd x (by simp)).mul hDS).1;have h4 := hg x (by simp)
    have h5 : (x.2 * ((ar 1 (x :: l) : Nat) : Rat)).num.natAbs ≠ 0 := by
     intro e;have e1 : (x.2 * ((ar 1 (x :: l) : Nat) : Rat)).num = 0 := by omega
     rcases Rat.mul_eq_zero.1 (Rat.num_eq_zero.1 e1) with h | h
     · exact hz x (by simp) h
     · have : ((ar 1 (x :: l) : Nat) : Int) = 0 := Rat.intCast_inj.1 (by rw [Rat.intCast_natCast, h]; rfl);have := denL_pos (x :: l) 1 (by omega)
       omega
    have h6 := Nat.le_of_dvd (by omega) h4;rw [show d + (8 * d + 1) = 9 * d + 1 by omega] at h3
    omega
 have e1 : 10 ^ (8 * d + 1) ≤ 10 ^ (9 * d + 2) := ten_le (by omega);have e2 : 10 ^ (9 * d + 1) ≤ 10 ^ (9 * d + 2) := ten_le (by omega);exact ds_quot (by omega) hgp (by omega)
theorem fit_numL {K : Type} (D : Nat) (l : List (K × Rat)) (h : ∀ x ∈ l, Fit (x.2 * D).num) : ∀ g : Nat, Fit g → Fit (numL D g l : Nat) := by
 induction l with
 | nil => exact fun _ hg => hg
 | cons x l ih =>
   intro g hg;refine ih (fun y hy => h y (by simp [hy])) _ (fit_gcd hg ?_);have := h x (by simp);unfold Fit at *;rwa [Int.natAbs_natCast]
/-- between two rounds -/
structure PQ (w wr : World) (D G : Nat) (C1 C2 : Array Value) (zd zg : Int) : Prop where
 r : wr.heap[w.heap.size]? = some (.cells #[.int .i64 0, .bool false, .slice none 0 0, .int .i64 0, .bool false, .slice none 0 0] 85 (0, 0))
 hd : wr.heap[D]? = some (.cells C1 83 (0, 0))
 vd : IV wr (.agg C1) zd
 hg : wr.heap[G]? = some (.cells C2 83 (0, 0))
 vg : IV wr (.agg C2) zg
 l1 : w.heap.size < D
 l2 : w.heap.size < G
 l3 : D ≠ G
 bel : Below w.heap.size w wr
theorem PQ.far {w wr w' : World} {D G : Nat} {C1 C2 : Array Value} {zd zg : Int} (h : PQ w wr D G C1 C2 zd zg) (hb : Below wr.heap.size wr w') : PQ w w' D G C1 C2 zd zg :=
 ⟨(hb.block _ (ab h.r)).trans h.r, (hb.block _ (ab h.hd)).trans h.hd, h.vd.far hb, (hb.block _ (ab h.hg)).trans h.hg, h.vg.far hb, h.l1, h.l2, h.l3, h.bel.trans (hb.mono h.bel.size)⟩
theorem PQ.setD {w wr : World} {D G : Nat} {C1 C2 : Array Value} {zd zg : Int} (h : PQ w wr D G C1 C2 zd zg) {s : Int} {b : Bool} {ao : Option Addr} {n c : Nat} {z : Int} (hz : IV wr (.agg #[.int .i64 s, .bool b, .slice ao n c]) z) : PQ w (((wr.setCell ⟨D, 0, none⟩ (.int .i64 s)).setCell ⟨D, 1, none⟩ (.bool b)).setCell ⟨D, 2, none⟩ (.slice ao n c)) D G #[.int .i64 s, .bool b, .slice ao n c] C2 z zg := by
 obtain ⟨_, _, _, _, _, hC1⟩ := ae h.vd;injection hC1 with hC1;subst hC1;have ho : ∀ g, g ≠ D → (((wr.setCell ⟨D, 0, none⟩ (.int .i64 s)).setCell ⟨D, 1, none⟩ (.bool b)).setCell ⟨D, 2, none⟩ (.slice ao n c)).heap[g]? = wr.heap[g]? := fun g hg => aj _ _ _ hg
 have h1 := h.l1;exact ⟨(ho _ (by omega)).trans h.r, aU h.hd, hz.but h.hd (by decide) ho, (ho _ (Ne.symm h.l3)).trans h.hg, h.vg.but h.hd (by decide) ho, h1, h.l2, h.l3, ((h.bel.setCell (show w.heap.size ≤ D by omega) _).setCell (show w.heap.size ≤ D by omega) _).setCell (show w.heap.size ≤ D by omega) _⟩
theorem PQ.setG {w wr : World} {D G : Nat} {C1 C2 : Array Value} {zd zg : Int} (h : PQ w wr D G C1 C2 zd zg) {s : Int} {b : Bool} {ao : Option Addr} {n c : Nat} {z : Int} (hz : IV wr (.agg #[.int .i64 s, .bool b, .slice ao n c]) z) : PQ w (((wr.setCell ⟨G, 0, none⟩ (.int .i64 s)).setCell ⟨G, 1, none⟩ (.bool b)).setCell ⟨G, 2, none⟩ (.slice ao n c)) D G C1 #[.int .i64 s, .bool b, .slice ao n c] zd z := by
 obtain ⟨_, _, _, _, _, hC2⟩ := ae h.vg;injection hC2 with hC2;subst hC2;have ho : ∀ g, g ≠ G → (((wr.setCell ⟨G, 0, none⟩ (.int .i64 s)).setCell ⟨G, 1, none⟩ (.bool b)).setCell ⟨G, 2, none⟩ (.slice ao n c)).heap[g]? = wr.heap[g]? := fun g hg => aj _ _ _ hg
 have h2 := h.l2;exact ⟨(ho _ (by omega)).trans h.r, (ho _ h.l3).trans h.hd, h.vd.but h.hg (by decide) ho, aU h.hg, hz.but h.hg (by decide) ho, h.l1, h2, h.l3, ((h.bel.setCell (show w.heap.size ≤ G by omega) _).setCell (show w.heap.size ≤ G by omega) _).setCell (show w.heap.size ≤ G by omega) _⟩
section
set_option maxRecDepth 100000
set_option maxHeartbeats 8000000
theorem primitive_any [Nms] {d : Nat} (w : World) (cs : List (List UInt8 × Rat)) (ao : Option Addr) (g off cap : Nat) (hC : CSl w ao g off cap cs) (hg : Good d cs) (hne : cs ≠ []) (hd : d ≤ 330) (hE : Env w) :
    Calls Tryz.prog 124 #[.slice ao cs.length cap] w (GetsQ (kP cs) w) := by
 have hle := hC.le;have hmost := hC.most;have HC := hid hC;have HE := hid hE;have HG := hid hg;obtain ⟨n, hn⟩ : ∃ n, cs.length = n := ⟨_, rfl⟩
 have HN := hid hn;rw [hn] at hle ⊢;have hal : Below w.heap.size w (w.alloc (.cells #[.int .i64 0, .bool false, .slice none 0 0, .int .i64 0, .bool false, .slice none 0 0] 85)) := (Below.refl _ _).alloc (Nat.le_refl _) _;have hfi := fromInt64_any 1 (w.alloc (.cells #[.int .i64 0, .bool false, .slice none 0 0, .int .i64 0, .bool false, .slice none 0 0] 85)) (by omega) (by omega);have HB0 := hid hal;have HR0 := hid (heap_alloc_new w (.cells #[.int .i64 0, .bool false, .slice none 0 0, .int .i64 0, .bool false, .slice none 0 0] 85));clear hC hE hg hn hal
 go_enter Tryz.func124, Tryz.ntmps124
 go_wp2_with fail
 refine hfi.mono ?_;rintro e w1 ⟨v1, rfl, hv1, hb1⟩;have HI := hid hv1;obtain ⟨s1, b1, a1, n1, c1, rfl⟩ := ae hv1;have HR1 := hid ((hb1.block _ (ab HR0.out)).trans HR0.out);have HB1 := hid (HB0.out.trans (hb1.mono HB0.out.size));clear hv1 hb1 hfi
 go_wp2_with fail
 have hPQ : PQ w ((w1.alloc (.cells #[.int .i64 s1, .bool b1, .slice a1 n1 c1] 83)).alloc (.cells #[.int .i64 0, .bool false, .slice none 0 0] 83)) w1.heap.size (w1.heap.size + 1) #[.int .i64 s1, .bool b1, .slice a1 n1 c1] #[.int .i64 0, .bool false, .slice none 0 0] ((ar 1 (cs.take 0) : Nat) : Int) ((0 : Nat) : Int) := by
  obtain ⟨m1, m2, mb⟩ := newL2 w1 (.cells #[.int .i64 s1, .bool b1, .slice a1 n1 c1] 83) (.cells #[.int .i64 0, .bool false, .slice none 0 0] 83);have hl := ab HR1.out;exact ⟨(mb.block _ hl).trans HR1.out, m1, HI.out.far mb, m2, bx _, hl, by omega, by omega, HB1.out.trans (mb.mono HB1.out.size)⟩
 have HP := hid hPQ;have hcl : cs.length ≤ 8 := can_len8 HG.out;have HCL := hid hcl;clear hPQ hcl HR0 HB0 HR1 HB1 HI;generalize (w1.alloc (.cells #[.int .i64 s1, .bool b1, .slice a1 n1 c1] 83)).alloc (.cells #[.int .i64 0, .bool false, .slice none 0 0] 83) = w2 at *;generalize w1.heap.size + 1 = G at *;generalize w1.heap.size = D at *
 have hfd : ∀ k, ar 1 (cs.take k) ≤ 10 ^ (d * 8) := fun k => by
  have h1 := denL_le (cs.take k) (fun x hx => HG.out.ds x (List.mem_of_mem_take hx)) 1;have h2 : (cs.take k).length ≤ 8 := Nat.le_trans (by rw [List.length_take]; exact Nat.min_le_right _ _) HCL.out;have h3 : 10 ^ (d * (cs.take k).length) ≤ 10 ^ (d * 8) := Nat.pow_le_pow_right (by omega) (Nat.mul_le_mul_left _ h2)
  omega
 have HFD := hid hfd;clear hfd
 go_loopg [13] n (fun gh v13 wr => ∃ (k : Nat) (C1 : Array Value), gh = n - k ∧ k ≤ n ∧ v13 = .int .i64 k ∧ PQ w wr D G C1 #[.int .i64 0, .bool false, .slice none 0 0] ((ar 1 (cs.take k) : Nat) : Int) ((0 : Nat) : Int))
 case atStart => exact ⟨0, _, rfl, Nat.zero_le _, rfl, HP.out⟩
 case round =>
  obtain ⟨k, C1, rfl, hk, rfl, hp⟩ := hrel;have HP1 := hid hp;clear hp HP;have hk0 : (0 : Int) ≤ (k : Int) := by omega
  by_cases hlt : k < n
  · have had := HC.out.ad (by omega);subst had;have hlt' : k < cs.length := by rw [HN.out]; exact hlt
    have hlti : (k : Int) < (n : Int) := by omega
    have c0 := (HC.out.far HP1.out.bel).nm k hlt';have c1' := (HC.out.far HP1.out.bel).nu k hlt';have hmu := fun W hW => mustT (HG.out.ds _ (List.getElem_mem hlt')) (by omega) W hW
    have hden := fun W v (h : RV W v cs[k].2) => ratDen_any v cs[k].2 W h
    have fden : Fit ((cs[k].2.den : Nat) : Int) := fit_ten (k := d) (by rw [Int.natAbs_natCast]; exact (HG.out.ds _ (List.getElem_mem hlt')).2) (by omega);have hlc := fun W u v (hu : IV W u ((ar 1 (cs.take k) : Nat) : Int)) (hv : IV W v ((cs[k].2.den : Nat) : Int)) => lcmI hu hv (denL_pos _ _ (by omega)) (fit_ten (k := d * 8) (by rw [Int.natAbs_natCast]; exact HFD.out k) (by omega)) fden
    have hsn : ar 1 (cs.take (k + 1)) = Nat.lcm (ar 1 (cs.take k)) cs[k].2.den := by rw [List.take_succ_eq_append_getElem hlt', denL_snoc]
    rw [← hsn] at hlc;have HMU := hid hmu;have HDN := hid hden;have HLC := hid hlc;clear hmu hden fden hlc hsn;generalize cs[k].2.den = dn at *;generalize (⟨cs[k].1.toArray⟩ : ByteArray) = tn at *;obtain ⟨tq, htq⟩ : ∃ tq : ByteArray, TX cs[k].2 = tq := ⟨_, rfl⟩
    rw [htq] at c1' HMU;obtain ⟨cq, hcq⟩ : ∃ cq : Rat, cs[k].2 = cq := ⟨_, rfl⟩
    rw [hcq] at HMU HDN;clear htq hcq;generalize ((ar 1 (cs.take k) : Nat) : Int) = zk at *;obtain ⟨zk1, hzk1⟩ : ∃ z : Int, ((ar 1 (cs.take (k + 1)) : Nat) : Int) = z := ⟨_, rfl⟩
    have HZ := hid hzk1;rw [hzk1] at HLC;clear hzk1;obtain ⟨s', b', ao', n', c', hC1⟩ := ae HP1.out.vd;injection hC1 with hC1;subst hC1
    go_wp2_with fail
    have hal : Below wr.heap.size wr (wr.alloc (.cells #[.string tn, .string tq] 79)) := (Below.refl _ _).alloc (Nat.le_refl _) _;have HP2 := hid (HP1.out.far hal);have HN2 := hid (heap_alloc_new wr (.cells #[.string tn, .string tq] 79));clear hal c0 c1';generalize wr.alloc (.cells #[.string tn, .string tq] 79) = wa at *;generalize wr.heap.size = N at *;refine aF [[], [], [1], [1, 2], [1, 2, 3], [0, 1, 2, 3, 4], [0, 1, 2, 3, 4, 5]] (fun W => PQ w W D G #[.int .i64 s', .bool b', .slice ao' n' c'] #[.int .i64 0, .bool false, .slice none 0 0] zk ((0 : Nat) : Int) ∧ W.heap[N]? = some (.cells #[.string tn, .string tq] 79 (0, 0))) (fun _ => True) ?_
    iterate 3
     apply aM
     · intro x; go_simp; done
     · intro x W R hW hF hR;have p0 := aa hW.1.hd 0;have p1 := aa hW.1.hd 1;have p2 := aa hW.1.hd 2;have q0 := aa hW.2 0;have q1 := aa hW.2 1;clear hF;unfold ag
       go_simp
       simp only [ac];exact hR _ (Below.refl _ _)
     simp only [Act.put, List.setIfInBounds_toArray, List.set_cons_zero, List.set_cons_succ]
    refine ba (fun v W => RV W v (cq)) (fun _ _ _ h hb => h.far hb) ?_ ?_ ?_
    · intro x; go_simp; done
    · intro x W R hW hF hR;clear hF;unfold ag
      go_simp
      simp only [ac];refine (HMU.out W (HE.out.far hW.1.bel)).mono ?_;rintro e w' ⟨v, rfl, hv, hb⟩;exact ⟨v, rfl, hR _ _ hv hb⟩
    simp only [Act.put, List.setIfInBounds_toArray, List.set_cons_zero, List.set_cons_succ, List.length_cons, List.length_nil, Nat.zero_add, Nat.reduceAdd];refine ba (fun v W => IV W v ((dn : Nat))) (fun _ _ _ h hb => h.far hb) ?_ ?_ ?_
    · intro x; go_simp; done
    · intro x W R hW hF hR;have hu := hF.1.2 rfl rfl rfl;simp only [AK.fact] at hu;clear hF;unfold ag
      go_simp
      simp only [ac];refine (HDN.out W _ hu).mono ?_;rintro e w' ⟨v, rfl, hv, hb⟩;exact ⟨v, rfl, hR _ _ hv hb⟩
    simp only [Act.put, List.setIfInBounds_toArray, List.set_cons_zero, List.set_cons_succ, List.length_cons, List.length_nil, Nat.zero_add, Nat.reduceAdd];refine ba (fun v W => IV W v (zk1)) (fun _ _ _ h hb => h.far hb) ?_ ?_ ?_
    · intro x; go_simp; done
    · intro x W R hW hF hR;have hu := hF.1.2 rfl rfl rfl;simp only [AK.fact] at hu;clear hF;unfold ag
      go_simp
      simp only [ac];refine (HLC.out W _ _ hW.1.vd hu).mono ?_;rintro e w' ⟨v, rfl, hv, hb⟩;exact ⟨v, rfl, hR _ _ hv hb⟩
    simp only [Act.put, List.setIfInBounds_toArray, List.set_cons_zero, List.set_cons_succ, List.length_cons, List.length_nil, Nat.zero_add, Nat.reduceAdd];refine a_wrt (fun _ W => ∃ C1, PQ w W D G C1 #[.int .i64 0, .bool false, .slice none 0 0] zk1 ((0 : Nat) : Int)) (fun _ _ _ h hb => let ⟨C1, h⟩ := h; ⟨C1, h.far hb⟩) (fun _ _ _ _ h => h) ?_ ?_ ?_
    · intro x; go_simp; done
    · intro x W R hW hF hD hR;have hu := hF.1.2 rfl rfl rfl;simp only [AK.fact] at hu;obtain ⟨s2, b2, ao2, n2, c2, hx⟩ := ae hu;rw [hx] at hu;simp only [hx];have e0 := aa hW.1.hd 0;have e1 := aa hW.1.hd 1;have e2 := aa hW.1.hd 2;have fr := fun i => ah hW.1.hd i
      clear hF hD;unfold ag
      go_simp
      simp only [ac];exact hR _ _ ⟨_, hW.1.setD hu⟩ trivial (by simp [World.setCell])
    simp only [Act.put];refine a_nil (by kernel_rfl) (by kernel_rfl) (by kernel_rfl) (fun _ _ h hb => ⟨h.1.far hb, (hb.block _ (ab h.2)).trans h.2⟩) (fun _ _ _ _ => trivial) (fun _ _ => trivial) (⟨HP2.out.far (Below.refl _ _).drew, HN2.out⟩) ?_;intro x W hE hW hF hD;clear hD;obtain ⟨C1, hp⟩ := hF.1.2 rfl;rw [← HZ.out] at hp;have HP3 := hid hp;clear hF hW hp
    go_wp2_with fail
    go_roundg (n - (k + 1))
    case rel => exact ⟨k + 1, C1, rfl, by omega, by go_num, HP3.out⟩
    case measure => omega
  · obtain rfl : k = n := by omega
    have hlti : ¬ ((k : Int) < (k : Int)) := by omega
    have hall : cs.take k = cs := by rw [← HN.out]; exact List.take_length
    rw [hall] at HP1;have hD4 := HFD.out k;rw [hall] at hD4;have HD4 := hid hD4;clear hlti hlt hall hk hk0 hD4
    go_wp2_with fail
    have hfg : ∀ j, Fit ((numL (ar 1 cs) 0 (cs.take j) : Nat) : Int) := fun j => fit_numL _ _ (fun x hx => by
     have h1 := HG.out.ds x (List.mem_of_mem_take hx)
     have h2 : DS (8 * d + 1) ((ar 1 cs : Nat) : Rat) := by
      have := DS.int (d := 8 * d + 1) (z := (ar 1 cs : Nat)) (by
       rw [Int.natAbs_natCast];have h3 : 10 ^ (d * 8) < 10 ^ (8 * d + 1) := Nat.pow_lt_pow_right (by omega) (by omega);have := HD4.out
       omega)
      rwa [Rat.intCast_natCast] at this
     exact fit_ten (k := d + (8 * d + 1)) (Nat.le_of_lt (h1.mul h2).1) (by omega)) 0 (fit_ten (k := 0) (by simp) (by omega))
    have HFG := hid hfg;clear hfg
    go_loopg [26] k (fun gh v26 wr => ∃ (j : Nat) (C1 C2 : Array Value), gh = k - j ∧ j ≤ k ∧ v26 = .int .i64 j ∧ PQ w wr D G C1 C2 ((ar 1 cs : Nat) : Int) ((numL (ar 1 cs) 0 (cs.take j) : Nat) : Int))
    case atStart => exact ⟨0, C1, _, rfl, Nat.zero_le _, rfl, HP1.out⟩
    case round =>
     obtain ⟨j, C1, C2, rfl, hj, rfl, hp⟩ := hrel;have HP3 := hid hp;clear hp HP1;have hj0 : (0 : Int) ≤ (j : Int) := by omega
     by_cases hlt : j < k
     · have had := HC.out.ad (by omega);subst had;have hlt' : j < cs.length := by rw [HN.out]; exact hlt
       have hlti : (j : Int) < (k : Int) := by omega
       have c0 := (HC.out.far HP3.out.bel).nm j hlt';have c1' := (HC.out.far HP3.out.bel).nu j hlt';have h1 := HG.out.ds _ (List.getElem_mem hlt')
       have h2 : DS (8 * d + 1) ((ar 1 cs : Nat) : Rat) := by
        have := DS.int (d := 8 * d + 1) (z := (ar 1 cs : Nat)) (by
         rw [Int.natAbs_natCast];have h3 : 10 ^ (d * 8) < 10 ^ (8 * d + 1) := Nat.pow_lt_pow_right (by omega) (by omega);have := HD4.out
         omega)
        rwa [Rat.intCast_natCast] at this
       have hmu := fun W hW => mustT h1 (by omega) W hW
       have hfi := fun W v (h : IV W v ((ar 1 cs : Nat) : Int)) => ratFromInt_any v _ W h
       rw [Rat.intCast_natCast] at hfi;have hml := fun W u v (hu : RV W u cs[j].2) (hv : RV W v ((ar 1 cs : Nat) : Rat)) => ratMul_any u v _ _ W hu hv (ds_rs (k := 100) h1 (by omega)) (ds_rs (k := 300) h2 (by omega)) (by omega)
       have hnm := fun W v (h : RV W v (cs[j].2 * ((ar 1 cs : Nat) : Rat))) => ratNum_any v (cs[j].2 * ((ar 1 cs : Nat) : Rat)) W h
       have hgc := fun W u v (hu : IV W u ((numL (ar 1 cs) 0 (cs.take j) : Nat) : Int)) (hv : IV W v (cs[j].2 * ((ar 1 cs : Nat) : Rat)).num) => gcd_any u v _ _ W hu hv (HFG.out j) (fit_ten (k := d + (8 * d + 1)) (Nat.le_of_lt (h1.mul h2).1) (by omega))
       have hsn : Int.gcd ((numL (ar 1 cs) 0 (cs.take j) : Nat) : Int) (cs[j].2 * ((ar 1 cs : Nat) : Rat)).num = numL (ar 1 cs) 0 (cs.take (j + 1)) := by
        rw [List.take_succ_eq_append_getElem hlt', numL_snoc];unfold Int.gcd;rw [Int.natAbs_natCast]
       rw [hsn] at hgc;have HMU := hid hmu;have HFI := hid hfi;have HML := hid hml;have HNM := hid hnm;have HGC := hid hgc;clear hmu hfi hml hnm hgc hsn h1 h2;generalize (cs[j].2 * ((ar 1 cs : Nat) : Rat)).num = znm at *;generalize cs[j].2 * ((ar 1 cs : Nat) : Rat) = qm at *;generalize (⟨cs[j].1.toArray⟩ : ByteArray) = tn at *;obtain ⟨tq, htq⟩ : ∃ tq : ByteArray, TX cs[j].2 = tq := ⟨_, rfl⟩
       rw [htq] at c1' HMU;obtain ⟨cq, hcq⟩ : ∃ cq : Rat, cs[j].2 = cq := ⟨_, rfl⟩
       rw [hcq] at HMU HML;clear htq hcq;obtain ⟨zg, hzg⟩ : ∃ z : Int, ((numL (ar 1 cs) 0 (cs.take j) : Nat) : Int) = z := ⟨_, rfl⟩
       rw [hzg] at HP3 HGC;obtain ⟨zg1, hzg1⟩ : ∃ z : Int, ((numL (ar 1 cs) 0 (cs.take (j + 1)) : Nat) : Int) = z := ⟨_, rfl⟩
       have HZ := hid hzg1;rw [hzg1] at HGC;obtain ⟨zd, hzd⟩ : ∃ z : Int, ((ar 1 cs : Nat) : Int) = z := ⟨_, rfl⟩
       have HZD := hid hzd;rw [hzd] at HP3 HFI;clear hzg hzg1 hzd;obtain ⟨qd, hqd⟩ : ∃ q : Rat, ((ar 1 cs : Nat) : Rat) = q := ⟨_, rfl⟩
       rw [hqd] at HFI HML;clear hqd;obtain ⟨s', b', ao', n', c', hC1⟩ := ae HP3.out.vd;injection hC1 with hC1;subst hC1;obtain ⟨s'', b'', ao'', n'', c'', hC2⟩ := ae HP3.out.vg;injection hC2 with hC2;subst hC2
       go_wp2_with fail
       have hal : Below wr.heap.size wr (wr.alloc (.cells #[.string tn, .string tq] 79)) := (Below.refl _ _).alloc (Nat.le_refl _) _;have HP4 := hid (HP3.out.far hal);have HN2 := hid (heap_alloc_new wr (.cells #[.string tn, .string tq] 79));clear hal c0 c1';generalize wr.alloc (.cells #[.string tn, .string tq] 79) = wa at *;generalize wr.heap.size = N at *;refine aF [[], [], [1], [1, 2], [], [1, 2, 3, 4], [1, 2, 3, 4, 5], [1, 2, 3, 4, 5, 6], [0, 1, 2, 3, 4, 5, 6, 7], [0, 1, 2, 3, 4, 5, 6, 7, 8]] (fun W => PQ w W D G #[.int .i64 s', .bool b', .slice ao' n' c'] #[.int .i64 s'', .bool b'', .slice ao'' n'' c''] zd zg ∧ W.heap[N]? = some (.cells #[.string tn, .string tq] 79 (0, 0))) (fun _ => True) ?_
       iterate 3
        apply aM
        · intro x; go_simp; done
        · intro x W R hW hF hR;have p0 := aa hW.1.hd 0;have p1 := aa hW.1.hd 1;have p2 := aa hW.1.hd 2;have q0 := aa hW.2 0;have q1 := aa hW.2 1;have g0 := aa hW.1.hg 0;have g1 := aa hW.1.hg 1;have g2 := aa hW.1.hg 2;clear hF;unfold ag
          go_simp
          simp only [ac];exact hR _ (Below.refl _ _)
        simp only [Act.put, List.setIfInBounds_toArray, List.set_cons_zero, List.set_cons_succ]
       refine ba (fun v W => RV W v (cq)) (fun _ _ _ h hb => h.far hb) ?_ ?_ ?_
       · intro x; go_simp; done
       · intro x W R hW hF hR;clear hF;unfold ag
         go_simp
         simp only [ac];refine (HMU.out W (HE.out.far hW.1.bel)).mono ?_;rintro e w' ⟨v, rfl, hv, hb⟩;exact ⟨v, rfl, hR _ _ hv hb⟩
       simp only [Act.put, List.setIfInBounds_toArray, List.set_cons_zero, List.set_cons_succ, List.length_cons, List.length_nil, Nat.zero_add, Nat.reduceAdd];apply aM
       · intro x; go_simp; done
       · intro x W R hW hF hR;have p0 := aa hW.1.hd 0;have p1 := aa hW.1.hd 1;have p2 := aa hW.1.hd 2;have q0 := aa hW.2 0;have q1 := aa hW.2 1;have g0 := aa hW.1.hg 0;have g1 := aa hW.1.hg 1;have g2 := aa hW.1.hg 2;clear hF;unfold ag
         go_simp
         simp only [ac];exact hR _ (Below.refl _ _)
       simp only [Act.put, List.setIfInBounds_toArray, List.set_cons_zero, List.set_cons_succ];refine ba (fun v W => RV W v (qd)) (fun _ _ _ h hb => h.far hb) ?_ ?_ ?_
       · intro x; go_simp; done
       · intro x W R hW hF hR;clear hF;unfold ag
         go_simp
         simp only [ac];refine (HFI.out W _ hW.1.vd).mono ?_;rintro e w' ⟨v, rfl, hv, hb⟩;exact ⟨v, rfl, hR _ _ hv hb⟩
       simp only [Act.put, List.setIfInBounds_toArray, List.set_cons_zero, List.set_cons_succ, List.length_cons, List.length_nil, Nat.zero_add, Nat.reduceAdd];refine ba (fun v W => RV W v (qm)) (fun _ _ _ h hb => h.far hb) ?_ ?_ ?_
       · intro x; go_simp; done
       · intro x W R hW hF hR;have hu := hF.1.2 rfl rfl rfl;have hv' := hF.2.2.1.2 rfl rfl rfl;simp only [AK.fact] at hu hv';clear hF;unfold ag
         go_simp
         simp only [ac];refine (HML.out W _ _ hv' hu).mono ?_;rintro e w' ⟨v, rfl, hv, hb⟩;exact ⟨v, rfl, hR _ _ hv hb⟩
       simp only [Act.put, List.setIfInBounds_toArray, List.set_cons_zero, List.set_cons_succ, List.length_cons, List.length_nil, Nat.zero_add, Nat.reduceAdd];refine ba (fun v W => IV W v (znm)) (fun _ _ _ h hb => h.far hb) ?_ ?_ ?_
       · intro x; go_simp; done
       · intro x W R hW hF hR;have hu := hF.1.2 rfl rfl rfl;simp only [AK.fact] at hu;clear hF;unfold ag
         go_simp
         simp only [ac];refine (HNM.out W _ hu).mono ?_;rintro e w' ⟨v, rfl, hv, hb⟩;exact ⟨v, rfl, hR _ _ hv hb⟩
       simp only [Act.put, List.setIfInBounds_toArray, List.set_cons_zero, List.set_cons_succ, List.length_cons, List.length_nil, Nat.zero_add, Nat.reduceAdd];refine ba (fun v W => IV W v (zg1)) (fun _ _ _ h hb => h.far hb) ?_ ?_ ?_
       · intro x; go_simp; done
       · intro x W R hW hF hR;have hu := hF.1.2 rfl rfl rfl;simp only [AK.fact] at hu;clear hF;unfold ag
         go_simp
         simp only [ac];refine (HGC.out W _ _ hW.1.vg hu).mono ?_;rintro e w' ⟨v, rfl, hv, hb⟩;exact ⟨v, rfl, hR _ _ hv hb⟩
       simp only [Act.put, List.setIfInBounds_toArray, List.set_cons_zero, List.set_cons_succ, List.length_cons, List.length_nil, Nat.zero_add, Nat.reduceAdd];refine a_wrt (fun _ W => ∃ C2, PQ w W D G #[.int .i64 s', .bool b', .slice ao' n' c'] C2 zd zg1) (fun _ _ _ h hb => let ⟨C1, h⟩ := h; ⟨C1, h.far hb⟩) (fun _ _ _ _ h => h) ?_ ?_ ?_
       · intro x; go_simp; done
       · intro x W R hW hF hD hR;have hu := hF.1.2 rfl rfl rfl;simp only [AK.fact] at hu;obtain ⟨s2, b2, ao2, n2, c2, hx⟩ := ae hu;rw [hx] at hu;simp only [hx];have e0 := aa hW.1.hg 0;have e1 := aa hW.1.hg 1;have e2 := aa hW.1.hg 2;have fr := fun i => ah hW.1.hg i
         clear hF hD;unfold ag
         go_simp
         simp only [ac];exact hR _ _ ⟨_, hW.1.setG hu⟩ trivial (by simp [World.setCell])
       simp only [Act.put];refine a_nil (by kernel_rfl) (by kernel_rfl) (by kernel_rfl) (fun _ _ h hb => ⟨h.1.far hb, (hb.block _ (ab h.2)).trans h.2⟩) (fun _ _ _ _ => trivial) (fun _ _ => trivial) (⟨HP4.out.far (Below.refl _ _).drew, HN2.out⟩) ?_;intro x W hE hW hF hD;clear hD;obtain ⟨C2, hp⟩ := hF.1.2 rfl;rw [← HZ.out, ← HZD.out] at hp;have HP5 := hid hp;clear hF hW hp
       go_wp2_with fail
       go_roundg (k - (j + 1))
       case rel => exact ⟨j + 1, _, C2, rfl, by omega, by go_num, HP5.out⟩
       case measure => omega
     · obtain rfl : j = k := by omega
       have hlti : ¬ ((j : Int) < (j : Int)) := by omega
       have hall : cs.take j = cs := by rw [← HN.out]; exact List.take_length
       have hfg := HFG.out j;rw [hall] at HP3 hfg;have hgp := (prim_is hne (can_nz HG.out.can)).1;have hqo := fun W u v (hu : IV W u ((ar 1 cs : Nat) : Int)) (hv : IV W v ((numL (ar 1 cs) 0 cs : Nat) : Int)) => quotient_any u v _ _ W hu hv (fit_ten (k := d * 8) (by rw [Int.natAbs_natCast]; exact HD4.out) (by omega)) hfg (by omega)
       have hkp : Rat.divInt ((ar 1 cs : Nat) : Int) ((numL (ar 1 cs) 0 cs : Nat) : Int) = kP cs := by
        rw [Rat.divInt_eq_div, Rat.intCast_natCast, Rat.intCast_natCast]; rfl
       rw [hkp] at hqo;have HQO := hid hqo;clear hqo hkp hgp hfg hall hlti hlt;obtain ⟨s', b', ao', n', c', hC1⟩ := ae HP3.out.vd;injection hC1 with hC1;subst hC1;obtain ⟨s'', b'', ao'', n'', c'', hC2⟩ := ae HP3.out.vg;injection hC2 with hC2;subst hC2;have p0 := aa HP3.out.hd 0;have p1 := aa HP3.out.hd 1;have p2 := aa HP3.out.hd 2;have q0 := aa HP3.out.hg 0;have q1 := aa HP3.out.hg 1;have q2 := aa HP3.out.hg 2
       go_wp2_with fail
       refine (HQO.out _ _ _ HP3.out.vd HP3.out.vg).mono ?_;rintro e w5 ⟨v, rfl, hv, hb⟩;have HP5 := hid (HP3.out.far hb);obtain ⟨s3, b3, ao3, n3, c3, s4, b4, ao4, n4, c4, rfl, i1, i2⟩ := aR hv;have HI1 := hid i1;have HI2 := hid i2;clear hv hb i1 i2 p0 p1 p2 q0 q1 q2;have r0 := aa HP5.out.r 0;have r1 := aa HP5.out.r 1;have r2 := aa HP5.out.r 2;have r3 := aa HP5.out.r 3;have r4 := aa HP5.out.r 4;have r5 := aa HP5.out.r 5;have fr := fun i => ah HP5.out.r i
       go_wp2_with fail
       exact end_rat Tryz.results124 rfl rfl HP5.out.r HI1.out HI2.out HP5.out.bel (Nat.le_refl _)
end
end Go.Proofs.YteoklapcifonaaaGreatDoor
/- Normal at a comparison by RelLe of sort SortInt; the sanity check. -/
namespace Go.Proofs.YteoklapcifonaaaGreatDoor
open Go.RowKit Nmx
theorem az {w : World} {R : Nat} {y0 y1 y2 y3 y4 : Value} {t : TypeId} (h : w.heap[R]? = some (.cells #[y0, y1, y2, y3, y4] t (0, 0))) (x0 x1 x2 x3 x4 : Value) : (((((w.setCell ⟨R, 0, none⟩ x0).setCell ⟨R, 1, none⟩ x1).setCell ⟨R, 2, none⟩ x2).setCell ⟨R, 3, none⟩ x3).setCell ⟨R, 4, none⟩ x4).heap[R]? = some (.cells #[x0, x1, x2, x3, x4] t (0, 0)) := by
 have := av (av (av (av (av h 0 x0) 1 x1) 2 x2) 3 x3) 4 x4
 simpa using this
theorem aN {w : World} {R : Nat} (x0 x1 x2 x3 x4 : Value) {g : Nat} (hg : g ≠ R) : (((((w.setCell ⟨R, 0, none⟩ x0).setCell ⟨R, 1, none⟩ x1).setCell ⟨R, 2, none⟩ x2).setCell ⟨R, 3, none⟩ x3).setCell ⟨R, 4, none⟩ x4).heap[g]? = w.heap[g]? := by
 rw [Below.heap_setCell _ _ _ _ hg, Below.heap_setCell _ _ _ _ hg, Below.heap_setCell _ _ _ _ hg, Below.heap_setCell _ _ _ _ hg, Below.heap_setCell _ _ _ _ hg]
theorem ax {B : Nat} {W w : World} {R : Nat} (h : Below B W w) (hR : B ≤ R) (x0 x1 x2 x3 x4 : Value) : Below B W (((((w.setCell ⟨R, 0, none⟩ x0).setCell ⟨R, 1, none⟩ x1).setCell ⟨R, 2, none⟩ x2).setCell ⟨R, 3, none⟩ x3).setCell ⟨R, 4, none⟩ x4) :=
 ((((h.setCell (show B ≤ R from hR) _).setCell (show B ≤ R from hR) _).setCell (show B ≤ R from hR) _).setCell (show B ≤ R from hR) _).setCell (show B ≤ R from hR) _
theorem tx_int (z : Int) : TX (z : Rat) = ⟨(bh z).toArray⟩ := by
 show (⟨(aK (z : Rat)).toArray⟩ : ByteArray) = _
 congr 2
 unfold aK;rw [Rat.num_intCast, Rat.den_intCast]
 simp
theorem intString_any {v : Value} {z : Int} {w : World} (h : IV w v z) (hE : Env w) : Calls Tryz.prog 122 #[v] w fun e w' => e = .returned (.string (TX (z : Rat))) ∧ Below w.heap.size w w' := by
 rw [tx_int];rcases h with ⟨rfl, hs⟩ | ⟨b, g, off, cap, l, rfl, hw, hl, rfl⟩
 · exact intString_small z w hE hs
 · exact intString_big b g off cap l w hE hw hl
/-- a constraint is handed back -/
theorem end_con {fn : Func} {t : Tmp} {a : Act} {w2 : World} {R : Nat} {r s : Int} {ao : Option Addr} {n c : Nat} {tx tm : ByteArray} {post : Ending → World → Prop} (hres : fn.results = #[.cell t 39]) (hd : a.defers = []) (ht : a.tmps.getD t undef = .pointer (some ⟨R, 0, none⟩))
    (hR : w2.heap[R]? = some (.cells #[.int .i64 r, .int .i64 s, .slice ao n c, .string tx, .string tm] 39 (0, 0))) (h : post (.returned (.agg #[.int .i64 r, .int .i64 s, .slice ao n c, .string tx, .string tm])) w2) :
    bodyPost Tryz.prog fn post .ret a w2 := by
 have k0 := aa hR 0;have k1 := aa hR 1;have k2 := aa hR 2;have k3 := aa hR 3;have k4 := aa hR 4
 simp at k0 k1 k2 k3 k4
 refine bodyPost_ret (v := .agg #[.int .i64 r, .int .i64 s, .slice ao n c, .string tx, .string tm]) ?_ hd h;have ht' : a.tmps[t]?.getD undef = .pointer (some ⟨R, 0, none⟩) := by simpa using ht
 simp [results, hres, go_sem, ht', k0, k1, k2, k3, k4]
theorem end_con2 {fn : Func} {t u : Tmp} {a : Act} {w2 : World} {R : Nat} {r s : Int} {ao : Option Addr} {n c : Nat} {tx tm : ByteArray} {post : Ending → World → Prop} (hres : fn.results = #[.cell t 39, .tmp u]) (hd : a.defers = []) (ht : a.tmps.getD t undef = .pointer (some ⟨R, 0, none⟩)) (hu : a.tmps.getD u undef = .int .i64 0)
    (hR : w2.heap[R]? = some (.cells #[.int .i64 r, .int .i64 s, .slice ao n c, .string tx, .string tm] 39 (0, 0))) (h : post (.returned (.tuple #[.agg #[.int .i64 r, .int .i64 s, .slice ao n c, .string tx, .string tm], .int .i64 0])) w2) :
    bodyPost Tryz.prog fn post .ret a w2 := by
 have k0 := aa hR 0;have k1 := aa hR 1;have k2 := aa hR 2;have k3 := aa hR 3;have k4 := aa hR 4
 simp at k0 k1 k2 k3 k4
 refine bodyPost_ret (v := .tuple #[.agg #[.int .i64 r, .int .i64 s, .slice ao n c, .string tx, .string tm], .int .i64 0]) ?_ hd h;have ht' : a.tmps[t]?.getD undef = .pointer (some ⟨R, 0, none⟩) := by simpa using ht
 have hu' : a.tmps[u]?.getD undef = .int .i64 0 := by simpa using hu
 simp [results, hres, go_sem, ht', hu', k0, k1, k2, k3, k4]
/-- the boxes of normalComparison -/
structure NB (w W : World) (T : Nat) (a1 : Option Addr) (n1 c1 : Nat) (t1 : ByteArray) (x0 x1 x2 x3 x4 x5 : Value) (k : Rat) : Prop where
 a : W.heap[w.heap.size]? = some (.cells #[.int .i64 1, .int .i64 2, .slice a1 n1 c1, .string t1, .string ⟨#[]⟩] 39 (0, 0))
 r : W.heap[w.heap.size + 1]? = some (.cells #[.int .i64 0, .int .i64 0, .slice none 0 0, .string ⟨#[]⟩, .string ⟨#[]⟩] 39 (0, 0))
 t : W.heap[T]? = some (.cells #[x0, x1, x2, x3, x4, x5] 85 (0, 0))
 kv : RV W (.agg #[x0, x1, x2, x3, x4, x5]) k
 lt : w.heap.size + 1 < T
 bel : Below w.heap.size w W
theorem NB.far {w W W' : World} {T : Nat} {a1 : Option Addr} {n1 c1 : Nat} {t1 : ByteArray} {x0 x1 x2 x3 x4 x5 : Value} {k : Rat} (h : NB w W T a1 n1 c1 t1 x0 x1 x2 x3 x4 x5 k) (hb : Below W.heap.size W W') : NB w W' T a1 n1 c1 t1 x0 x1 x2 x3 x4 x5 k :=
 ⟨(hb.block _ (ab h.a)).trans h.a, (hb.block _ (ab h.r)).trans h.r, (hb.block _ (ab h.t)).trans h.t, h.kv.far hb, h.lt, h.bel.trans (hb.mono h.bel.size)⟩
theorem RV.but {w w' : World} {v : Value} {q : Rat} (h : RV w v q) {R : Nat} {cs : Array Value} {t : TypeId} {fr : Nat × Nat} (hR : w.heap[R]? = some (.cells cs t fr)) (ht : t ≠ 145) (ho : ∀ g, g ≠ R → w'.heap[g]? = w.heap[g]?) : RV w' v q :=
 h.kept (words_but hR ht fun g _ hg => ho g hg)
theorem NB.put {w W : World} {T : Nat} {a1 : Option Addr} {n1 c1 : Nat} {t1 : ByteArray} {x0 x1 x2 x3 x4 x5 : Value} {k : Rat} (h : NB w W T a1 n1 c1 t1 x0 x1 x2 x3 x4 x5 k) {y0 y1 y2 y3 y4 y5 : Value} {q : Rat} (hq : RV W (.agg #[y0, y1, y2, y3, y4, y5]) q) : NB w ((((((W.setCell ⟨T, 0, none⟩ y0).setCell ⟨T, 1, none⟩ y1).setCell ⟨T, 2, none⟩ y2).setCell ⟨T, 3, none⟩ y3).setCell ⟨T, 4, none⟩ y4).setCell ⟨T, 5, none⟩ y5) T a1 n1 c1 t1 y0 y1 y2 y3 y4 y5 q := by
 have h1 := h.lt;have ho : ∀ g, g ≠ T → ((((((W.setCell ⟨T, 0, none⟩ y0).setCell ⟨T, 1, none⟩ y1).setCell ⟨T, 2, none⟩ y2).setCell ⟨T, 3, none⟩ y3).setCell ⟨T, 4, none⟩ y4).setCell ⟨T, 5, none⟩ y5).heap[g]? = W.heap[g]? := fun _ hg => set6_other hg _ _ _ _ _ _
 exact ⟨(ho _ (by omega)).trans h.a, (ho _ (by omega)).trans h.r, set6_heap h.t _ _ _ _ _ _, hq.but h.t (by decide) ho, h1, set6_below h.bel (by omega) _ _ _ _ _ _⟩
theorem LV.const [Nms] {w : World} {s : Int} {ao : Option Addr} {n c : Nat} {tx : ByteArray} {d e : Nat} {p q : Rat} {rs : List (List UInt8 × Rat)} (h : LV w (.agg #[.int .i64 s, .slice ao n c, .string tx]) s d p rs) (hq : DS e q) (hd : d ≤ e) : LV w (.agg #[.int .i64 s, .slice ao n c, .string (TX q)]) s e q rs := by
 obtain ⟨ao', g, off, cap, he, h1, h2, h3, h4⟩ := h;injection he with he;injection he with he;injection he with _ he;injection he with he1 he;injection he1 with e1 e2 e3;subst e1 e2 e3;exact ⟨_, g, off, _, rfl, h1, h2, h3.mono hd, hq⟩
def GetsCE (d : Nat) (c : Rat) (f : List UInt8 → Rat) (w : World) (e : Ending) (w' : World) : Prop := ∃ rs ao n cp tx, e = .returned (.tuple #[.agg #[.int .i64 1, .int .i64 2, .slice ao n cp, .string tx, .string ⟨#[]⟩], .int .i64 0]) ∧ LV w' (.agg #[.int .i64 2, .slice ao n cp, .string tx]) 2 d c rs ∧ (∀ n, cof rs n = f n) ∧ Below w.heap.size w w'
theorem ds_ce {d : Nat} {p : Rat} (h : DS d p) : DS (d + 1) ((ceI p : Int) : Rat) := by
 unfold ceI;have := h.neg.fl;have e : ((-flI (-p) : Int) : Rat) = -((flI (-p) : Int) : Rat) := Rat.intCast_neg _;rw [e];exact this.neg
end Go.Proofs.YteoklapcifonaaaGreatDoor

/- The number that makes coefficients integers without a common divisor: its walk. -/
import Derived.Test.YteoklapcifonaaaGreatDoorVLK
import Derived.Deep.LoopGhost
open Go.Lib (hid)
namespace Go.Proofs.YteoklapcifonaaaGreatDoor
open Go.RowKit Nmx
section
variable {K : Type}
theorem denL_snoc (l : List (K × Rat)) (x : K × Rat) : ∀ D, denL D (l ++ [x]) = Nat.lcm (denL D l) x.2.den := by
 induction l with
 | nil => exact fun D => rfl
 | cons y l ih => exact fun D => ih _
theorem numL_snoc (D : Nat) (l : List (K × Rat)) (x : K × Rat) : ∀ g, numL D g (l ++ [x]) = Nat.gcd (numL D g l) (x.2 * D).num.natAbs := by
 induction l with
 | nil => exact fun g => rfl
 | cons y l ih => exact fun g => ih _
theorem denL_le {d : Nat} (l : List (K × Rat)) (h : ∀ x ∈ l, DS d x.2) : ∀ D, denL D l ≤ D * 10 ^ (d * l.length) := by
 induction l with
 | nil => intro D; show D ≤ _; simp
 | cons y l ih =>
   intro D;have h1 := ih (fun x hx => h x (by simp [hx])) (Nat.lcm D y.2.den)
   have h2 : Nat.lcm D y.2.den ≤ D * 10 ^ d := by
    have h3 : Nat.lcm D y.2.den ≤ D * y.2.den := by
     unfold Nat.lcm; exact Nat.div_le_self _ _
    exact Nat.le_trans h3 (Nat.mul_le_mul_left _ (h y (by simp)).2)
   show denL (Nat.lcm D y.2.den) l ≤ _;refine Nat.le_trans h1 (Nat.le_trans (Nat.mul_le_mul_right _ h2) ?_);rw [List.length_cons, Nat.mul_add, Nat.mul_one, Nat.pow_add, Nat.mul_assoc, Nat.mul_comm (10 ^ d)];exact Nat.le_refl _
end
set_option exponentiation.threshold 600 in
theorem fit_ten {z : Int} {k : Nat} (h : z.natAbs ≤ 10 ^ k) (hk : k ≤ 4000) : Fit z := fit_of (k := 500) (ten_words h (by omega)) (by omega)
theorem fit_gcd {a b : Nat} (ha : Fit (a : Int)) (hb : Fit (b : Int)) : Fit ((Nat.gcd a b : Nat) : Int) := by
 rcases Nat.eq_zero_or_pos b with h | h
 · subst h; rw [Nat.gcd_zero_right]; exact ha
 · exact fit_le hb (n := Nat.gcd a b) (by simpa using Nat.le_of_dvd h (Nat.gcd_dvd_right a b)) rfl
/-- the number -/
def kP {K : Type} (cs : List (K × Rat)) : Rat := (denL 1 cs : Nat) / (numL (denL 1 cs) 0 cs : Nat)
theorem kP_ds {K : Type} {d : Nat} {cs : List (K × Rat)} (hl : cs ≠ []) (hz : ∀ x ∈ cs, x.2 ≠ 0) (hd : ∀ x ∈ cs, DS d x.2) (hn : cs.length ≤ 4) : DS (9 * d + 2) (kP cs) := by
 have h1 := denL_le cs hd 1;have h2 : 10 ^ (d * cs.length) ≤ 10 ^ (4 * d) := Nat.pow_le_pow_right (by omega) (by rw [Nat.mul_comm]; exact Nat.mul_le_mul_right _ hn);obtain ⟨hgp, -⟩ := prim_is hl hz;have hD : denL 1 cs < 10 ^ (4 * d + 1) := Nat.lt_of_le_of_lt (by omega) (Nat.pow_lt_pow_right (by omega) (Nat.lt_succ_self (4 * d)))
 have hDS : DS (4 * d + 1) ((denL 1 cs : Nat) : Rat) := by
  have := DS.int (d := 4 * d + 1) (z := (denL 1 cs : Nat)) (by simpa using hD);rwa [Rat.intCast_natCast] at this
 obtain ⟨-, hg, -⟩ := numL_dvd (denL 1 cs) cs 0
 have hG : numL (denL 1 cs) 0 cs < 10 ^ (5 * d + 1) := by
  cases cs with
  | nil => exact absurd rfl hl
  | cons x l =>
    have h3 := ((hd x (by simp)).mul hDS).1;have h4 := hg x (by simp)
    have h5 : (x.2 * ((denL 1 (x :: l) : Nat) : Rat)).num.natAbs ≠ 0 := by
     intro e;have e1 : (x.2 * ((denL 1 (x :: l) : Nat) : Rat)).num = 0 := by omega
     rcases Rat.mul_eq_zero.1 (Rat.num_eq_zero.1 e1) with h | h
     · exact hz x (by simp) h
     · have : ((denL 1 (x :: l) : Nat) : Int) = 0 := Rat.intCast_inj.1 (by rw [Rat.intCast_natCast, h]; rfl);have := denL_pos (x :: l) 1 (by omega)
       omega
    have h6 := Nat.le_of_dvd (by omega) h4;rw [show d + (4 * d + 1) = 5 * d + 1 by omega] at h3
    omega
 have hGS : DS (5 * d + 1) ((numL (denL 1 cs) 0 cs : Nat) : Rat) := by
  have := DS.int (d := 5 * d + 1) (z := (numL (denL 1 cs) 0 cs : Nat)) (by simpa using hG);rwa [Rat.intCast_natCast] at this
 have h0 : ((numL (denL 1 cs) 0 cs : Nat) : Rat).num ≠ 0 := by
  rw [← Rat.intCast_natCast, Rat.num_intCast]; omega
 exact (hDS.div hGS h0).mono (by omega)
theorem fit_numL {K : Type} (D : Nat) (l : List (K × Rat)) (h : ∀ x ∈ l, Fit (x.2 * D).num) : ∀ g : Nat, Fit g → Fit (numL D g l : Nat) := by
 induction l with
 | nil => exact fun _ hg => hg
 | cons x l ih =>
   intro g hg;refine ih (fun y hy => h y (by simp [hy])) _ (fit_gcd hg ?_);have := h x (by simp);unfold Fit at *;rwa [Int.natAbs_natCast]
/-- between two rounds -/
structure PQ (w wr : World) (D G : Nat) (C1 C2 : Array Value) (zd zg : Int) : Prop where
 r : wr.heap[w.heap.size]? = some (.cells #[.int .i64 0, .bool false, .slice none 0 0, .int .i64 0, .bool false, .slice none 0 0] 85 (0, 0))
 hd : wr.heap[D]? = some (.cells C1 83 (0, 0))
 vd : IV wr (.agg C1) zd
 hg : wr.heap[G]? = some (.cells C2 83 (0, 0))
 vg : IV wr (.agg C2) zg
 l1 : w.heap.size < D
 l2 : w.heap.size < G
 l3 : D ≠ G
 bel : Below w.heap.size w wr
theorem PQ.far {w wr w' : World} {D G : Nat} {C1 C2 : Array Value} {zd zg : Int} (h : PQ w wr D G C1 C2 zd zg) (hb : Below wr.heap.size wr w') : PQ w w' D G C1 C2 zd zg :=
 ⟨(hb.block _ (lt_of_heap h.r)).trans h.r, (hb.block _ (lt_of_heap h.hd)).trans h.hd, h.vd.far hb, (hb.block _ (lt_of_heap h.hg)).trans h.hg, h.vg.far hb, h.l1, h.l2, h.l3, h.bel.trans (hb.mono h.bel.size)⟩
theorem PQ.setD {w wr : World} {D G : Nat} {C1 C2 : Array Value} {zd zg : Int} (h : PQ w wr D G C1 C2 zd zg) {s : Int} {b : Bool} {ao : Option Addr} {n c : Nat} {z : Int} (hz : IV wr (.agg #[.int .i64 s, .bool b, .slice ao n c]) z) : PQ w (((wr.setCell ⟨D, 0, none⟩ (.int .i64 s)).setCell ⟨D, 1, none⟩ (.bool b)).setCell ⟨D, 2, none⟩ (.slice ao n c)) D G #[.int .i64 s, .bool b, .slice ao n c] C2 z zg := by
 obtain ⟨_, _, _, _, _, hC1⟩ := iv_form h.vd;injection hC1 with hC1;subst hC1;have ho : ∀ g, g ≠ D → (((wr.setCell ⟨D, 0, none⟩ (.int .i64 s)).setCell ⟨D, 1, none⟩ (.bool b)).setCell ⟨D, 2, none⟩ (.slice ao n c)).heap[g]? = wr.heap[g]? := fun g hg => set3_other _ _ _ hg
 have h1 := h.l1;exact ⟨(ho _ (by omega)).trans h.r, set3_heap h.hd, hz.but h.hd (by decide) ho, (ho _ (Ne.symm h.l3)).trans h.hg, h.vg.but h.hd (by decide) ho, h1, h.l2, h.l3, ((h.bel.setCell (show w.heap.size ≤ D by omega) _).setCell (show w.heap.size ≤ D by omega) _).setCell (show w.heap.size ≤ D by omega) _⟩
theorem PQ.setG {w wr : World} {D G : Nat} {C1 C2 : Array Value} {zd zg : Int} (h : PQ w wr D G C1 C2 zd zg) {s : Int} {b : Bool} {ao : Option Addr} {n c : Nat} {z : Int} (hz : IV wr (.agg #[.int .i64 s, .bool b, .slice ao n c]) z) : PQ w (((wr.setCell ⟨G, 0, none⟩ (.int .i64 s)).setCell ⟨G, 1, none⟩ (.bool b)).setCell ⟨G, 2, none⟩ (.slice ao n c)) D G C1 #[.int .i64 s, .bool b, .slice ao n c] zd z := by
 obtain ⟨_, _, _, _, _, hC2⟩ := iv_form h.vg;injection hC2 with hC2;subst hC2;have ho : ∀ g, g ≠ G → (((wr.setCell ⟨G, 0, none⟩ (.int .i64 s)).setCell ⟨G, 1, none⟩ (.bool b)).setCell ⟨G, 2, none⟩ (.slice ao n c)).heap[g]? = wr.heap[g]? := fun g hg => set3_other _ _ _ hg
 have h2 := h.l2;exact ⟨(ho _ (by omega)).trans h.r, (ho _ h.l3).trans h.hd, h.vd.but h.hg (by decide) ho, set3_heap h.hg, hz.but h.hg (by decide) ho, h.l1, h2, h.l3, ((h.bel.setCell (show w.heap.size ≤ G by omega) _).setCell (show w.heap.size ≤ G by omega) _).setCell (show w.heap.size ≤ G by omega) _⟩
section
set_option maxRecDepth 100000
set_option maxHeartbeats 8000000
theorem primitive_any {d : Nat} (w : World) (cs : List (List UInt8 × Rat)) (ao : Option Addr) (g off cap : Nat) (hC : CSl w ao g off cap cs) (hg : Good d cs) (hne : cs ≠ []) (hd : d ≤ 640) (hE : Env w) :
    Calls Tryz.prog 124 #[.slice ao cs.length cap] w (GetsQ (kP cs) w) := by
 have hle := hC.le;have hmost := hC.most;have HC := hid hC;have HE := hid hE;have HG := hid hg;obtain ⟨n, hn⟩ : ∃ n, cs.length = n := ⟨_, rfl⟩
 have HN := hid hn;rw [hn] at hle ⊢;have hal : Below w.heap.size w (w.alloc (.cells #[.int .i64 0, .bool false, .slice none 0 0, .int .i64 0, .bool false, .slice none 0 0] 85)) := (Below.refl _ _).alloc (Nat.le_refl _) _;have hfi := fromInt64_any 1 (w.alloc (.cells #[.int .i64 0, .bool false, .slice none 0 0, .int .i64 0, .bool false, .slice none 0 0] 85)) (by omega) (by omega);have HB0 := hid hal;have HR0 := hid (heap_alloc_new w (.cells #[.int .i64 0, .bool false, .slice none 0 0, .int .i64 0, .bool false, .slice none 0 0] 85));clear hC hE hg hn hal
 go_enter Tryz.func124, Tryz.ntmps124
 go_wp2_with fail
 refine hfi.mono ?_;rintro e w1 ⟨v1, rfl, hv1, hb1⟩;have HI := hid hv1;obtain ⟨s1, b1, a1, n1, c1, rfl⟩ := iv_form hv1;have HR1 := hid ((hb1.block _ (lt_of_heap HR0.out)).trans HR0.out);have HB1 := hid (HB0.out.trans (hb1.mono HB0.out.size));clear hv1 hb1 hfi
 go_wp2_with fail
 have hPQ : PQ w ((w1.alloc (.cells #[.int .i64 s1, .bool b1, .slice a1 n1 c1] 83)).alloc (.cells #[.int .i64 0, .bool false, .slice none 0 0] 83)) w1.heap.size (w1.heap.size + 1) #[.int .i64 s1, .bool b1, .slice a1 n1 c1] #[.int .i64 0, .bool false, .slice none 0 0] ((denL 1 (cs.take 0) : Nat) : Int) ((0 : Nat) : Int) := by
  obtain ⟨m1, m2, mb⟩ := newL2 w1 (.cells #[.int .i64 s1, .bool b1, .slice a1 n1 c1] 83) (.cells #[.int .i64 0, .bool false, .slice none 0 0] 83);have hl := lt_of_heap HR1.out;exact ⟨(mb.block _ hl).trans HR1.out, m1, HI.out.far mb, m2, zeroIV _, hl, by omega, by omega, HB1.out.trans (mb.mono HB1.out.size)⟩
 have HP := hid hPQ;have hcl : cs.length ≤ 4 := can_len HG.out.can HG.out.nm;have HCL := hid hcl;clear hPQ hcl HR0 HB0 HR1 HB1 HI;generalize (w1.alloc (.cells #[.int .i64 s1, .bool b1, .slice a1 n1 c1] 83)).alloc (.cells #[.int .i64 0, .bool false, .slice none 0 0] 83) = w2 at *;generalize w1.heap.size + 1 = G at *;generalize w1.heap.size = D at *
 have hfd : ∀ k, denL 1 (cs.take k) ≤ 10 ^ (d * 4) := fun k => by
  have h1 := denL_le (cs.take k) (fun x hx => HG.out.ds x (List.mem_of_mem_take hx)) 1;have h2 : (cs.take k).length ≤ 4 := Nat.le_trans (by rw [List.length_take]; exact Nat.min_le_right _ _) HCL.out;have h3 : 10 ^ (d * (cs.take k).length) ≤ 10 ^ (d * 4) := Nat.pow_le_pow_right (by omega) (Nat.mul_le_mul_left _ h2)
  omega
 have HFD := hid hfd;clear hfd
 go_loopg [13] n (fun gh v13 wr => ∃ (k : Nat) (C1 : Array Value), gh = n - k ∧ k ≤ n ∧ v13 = .int .i64 k ∧ PQ w wr D G C1 #[.int .i64 0, .bool false, .slice none 0 0] ((denL 1 (cs.take k) : Nat) : Int) ((0 : Nat) : Int))
 case atStart => exact ⟨0, _, rfl, Nat.zero_le _, rfl, HP.out⟩
 case round =>
  obtain ⟨k, C1, rfl, hk, rfl, hp⟩ := hrel;have HP1 := hid hp;clear hp HP;have hk0 : (0 : Int) ≤ (k : Int) := by omega
  by_cases hlt : k < n
  · have had := HC.out.ad (by omega);subst had;have hlt' : k < cs.length := by rw [HN.out]; exact hlt
    have hlti : (k : Int) < (n : Int) := by omega
    have c0 := (HC.out.far HP1.out.bel).nm k hlt';have c1' := (HC.out.far HP1.out.bel).nu k hlt';have hmu := fun W hW => mustT (HG.out.ds _ (List.getElem_mem hlt')) (by omega) W hW
    have hden := fun W v (h : RV W v cs[k].2) => ratDen_any v cs[k].2 W h
    have fden : Fit ((cs[k].2.den : Nat) : Int) := fit_ten (k := d) (by rw [Int.natAbs_natCast]; exact (HG.out.ds _ (List.getElem_mem hlt')).2) (by omega);have hlc := fun W u v (hu : IV W u ((denL 1 (cs.take k) : Nat) : Int)) (hv : IV W v ((cs[k].2.den : Nat) : Int)) => lcmI hu hv (denL_pos _ _ (by omega)) (fit_ten (k := d * 4) (by rw [Int.natAbs_natCast]; exact HFD.out k) (by omega)) fden
    have hsn : denL 1 (cs.take (k + 1)) = Nat.lcm (denL 1 (cs.take k)) cs[k].2.den := by rw [List.take_succ_eq_append_getElem hlt', denL_snoc]
    rw [← hsn] at hlc;have HMU := hid hmu;have HDN := hid hden;have HLC := hid hlc;clear hmu hden fden hlc hsn;generalize cs[k].2.den = dn at *;generalize (⟨cs[k].1.toArray⟩ : ByteArray) = tn at *;obtain ⟨tq, htq⟩ : ∃ tq : ByteArray, TX cs[k].2 = tq := ⟨_, rfl⟩
    rw [htq] at c1' HMU;obtain ⟨cq, hcq⟩ : ∃ cq : Rat, cs[k].2 = cq := ⟨_, rfl⟩
    rw [hcq] at HMU HDN;clear htq hcq;generalize ((denL 1 (cs.take k) : Nat) : Int) = zk at *;obtain ⟨zk1, hzk1⟩ : ∃ z : Int, ((denL 1 (cs.take (k + 1)) : Nat) : Int) = z := ⟨_, rfl⟩
    have HZ := hid hzk1;rw [hzk1] at HLC;clear hzk1;obtain ⟨s', b', ao', n', c', hC1⟩ := iv_form HP1.out.vd;injection hC1 with hC1;subst hC1
    go_wp2_with fail
    have hal : Below wr.heap.size wr (wr.alloc (.cells #[.string tn, .string tq] 79)) := (Below.refl _ _).alloc (Nat.le_refl _) _;have HP2 := hid (HP1.out.far hal);have HN2 := hid (heap_alloc_new wr (.cells #[.string tn, .string tq] 79));clear hal c0 c1';generalize wr.alloc (.cells #[.string tn, .string tq] 79) = wa at *;generalize wr.heap.size = N at *;refine add_region [[], [], [1], [1, 2], [1, 2, 3], [0, 1, 2, 3, 4], [0, 1, 2, 3, 4, 5]] (fun W => PQ w W D G #[.int .i64 s', .bool b', .slice ao' n' c'] #[.int .i64 0, .bool false, .slice none 0 0] zk ((0 : Nat) : Int) ∧ W.heap[N]? = some (.cells #[.string tn, .string tq] 79 (0, 0))) (fun _ => True) ?_
    iterate 3
     apply a_con
     · intro x; go_simp; done
     · intro x W R hW hF hR;have p0 := heap_cell hW.1.hd 0;have p1 := heap_cell hW.1.hd 1;have p2 := heap_cell hW.1.hd 2;have q0 := heap_cell hW.2 0;have q1 := heap_cell hW.2 1;clear hF;unfold addAt
       go_simp
       simp only [addUpon];exact hR _ (Below.refl _ _)
     simp only [Act.put, List.setIfInBounds_toArray, List.set_cons_zero, List.set_cons_succ]
    refine a_opq (fun v W => RV W v (cq)) (fun _ _ _ h hb => h.far hb) ?_ ?_ ?_
    · intro x; go_simp; done
    · intro x W R hW hF hR;clear hF;unfold addAt
      go_simp
      simp only [addUpon];refine (HMU.out W (HE.out.far hW.1.bel)).mono ?_;rintro e w' ⟨v, rfl, hv, hb⟩;exact ⟨v, rfl, hR _ _ hv hb⟩
    simp only [Act.put, List.setIfInBounds_toArray, List.set_cons_zero, List.set_cons_succ, List.length_cons, List.length_nil, Nat.zero_add, Nat.reduceAdd];refine a_opq (fun v W => IV W v ((dn : Nat))) (fun _ _ _ h hb => h.far hb) ?_ ?_ ?_
    · intro x; go_simp; done
    · intro x W R hW hF hR;have hu := hF.1.2 rfl rfl rfl;simp only [AK.fact] at hu;clear hF;unfold addAt
      go_simp
      simp only [addUpon];refine (HDN.out W _ hu).mono ?_;rintro e w' ⟨v, rfl, hv, hb⟩;exact ⟨v, rfl, hR _ _ hv hb⟩
    simp only [Act.put, List.setIfInBounds_toArray, List.set_cons_zero, List.set_cons_succ, List.length_cons, List.length_nil, Nat.zero_add, Nat.reduceAdd];refine a_opq (fun v W => IV W v (zk1)) (fun _ _ _ h hb => h.far hb) ?_ ?_ ?_
    · intro x; go_simp; done
    · intro x W R hW hF hR;have hu := hF.1.2 rfl rfl rfl;simp only [AK.fact] at hu;clear hF;unfold addAt
      go_simp
      simp only [addUpon];refine (HLC.out W _ _ hW.1.vd hu).mono ?_;rintro e w' ⟨v, rfl, hv, hb⟩;exact ⟨v, rfl, hR _ _ hv hb⟩
    simp only [Act.put, List.setIfInBounds_toArray, List.set_cons_zero, List.set_cons_succ, List.length_cons, List.length_nil, Nat.zero_add, Nat.reduceAdd];refine a_wrt (fun _ W => ∃ C1, PQ w W D G C1 #[.int .i64 0, .bool false, .slice none 0 0] zk1 ((0 : Nat) : Int)) (fun _ _ _ h hb => let ⟨C1, h⟩ := h; ⟨C1, h.far hb⟩) (fun _ _ _ _ h => h) ?_ ?_ ?_
    · intro x; go_simp; done
    · intro x W R hW hF hD hR;have hu := hF.1.2 rfl rfl rfl;simp only [AK.fact] at hu;obtain ⟨s2, b2, ao2, n2, c2, hx⟩ := iv_form hu;rw [hx] at hu;simp only [hx];have e0 := heap_cell hW.1.hd 0;have e1 := heap_cell hW.1.hd 1;have e2 := heap_cell hW.1.hd 2;have fr := fun i => heap_fz hW.1.hd i
      clear hF hD;unfold addAt
      go_simp
      simp only [addUpon];exact hR _ _ ⟨_, hW.1.setD hu⟩ trivial (by simp [World.setCell])
    simp only [Act.put];refine a_nil (by kernel_rfl) (by kernel_rfl) (by kernel_rfl) (fun _ _ h hb => ⟨h.1.far hb, (hb.block _ (lt_of_heap h.2)).trans h.2⟩) (fun _ _ _ _ => trivial) (fun _ _ => trivial) (⟨HP2.out.far (Below.refl _ _).drew, HN2.out⟩) ?_;intro x W hE hW hF hD;clear hD;obtain ⟨C1, hp⟩ := hF.1.2 rfl;rw [← HZ.out] at hp;have HP3 := hid hp;clear hF hW hp
    go_wp2_with fail
    go_roundg (n - (k + 1))
    case rel => exact ⟨k + 1, C1, rfl, by omega, by go_num, HP3.out⟩
    case measure => omega
  · obtain rfl : k = n := by omega
    have hlti : ¬ ((k : Int) < (k : Int)) := by omega
    have hall : cs.take k = cs := by rw [← HN.out]; exact List.take_length
    rw [hall] at HP1;have hD4 := HFD.out k;rw [hall] at hD4;have HD4 := hid hD4;clear hlti hlt hall hk hk0 hD4
    go_wp2_with fail
    have hfg : ∀ j, Fit ((numL (denL 1 cs) 0 (cs.take j) : Nat) : Int) := fun j => fit_numL _ _ (fun x hx => by
     have h1 := HG.out.ds x (List.mem_of_mem_take hx)
     have h2 : DS (4 * d + 1) ((denL 1 cs : Nat) : Rat) := by
      have := DS.int (d := 4 * d + 1) (z := (denL 1 cs : Nat)) (by
       rw [Int.natAbs_natCast];have h3 : 10 ^ (d * 4) < 10 ^ (4 * d + 1) := Nat.pow_lt_pow_right (by omega) (by omega);have := HD4.out
       omega)
      rwa [Rat.intCast_natCast] at this
     exact fit_ten (k := d + (4 * d + 1)) (Nat.le_of_lt (h1.mul h2).1) (by omega)) 0 (fit_ten (k := 0) (by simp) (by omega))
    have HFG := hid hfg;clear hfg
    go_loopg [26] k (fun gh v26 wr => ∃ (j : Nat) (C1 C2 : Array Value), gh = k - j ∧ j ≤ k ∧ v26 = .int .i64 j ∧ PQ w wr D G C1 C2 ((denL 1 cs : Nat) : Int) ((numL (denL 1 cs) 0 (cs.take j) : Nat) : Int))
    case atStart => exact ⟨0, C1, _, rfl, Nat.zero_le _, rfl, HP1.out⟩
    case round =>
     obtain ⟨j, C1, C2, rfl, hj, rfl, hp⟩ := hrel;have HP3 := hid hp;clear hp HP1;have hj0 : (0 : Int) ≤ (j : Int) := by omega
     by_cases hlt : j < k
     · have had := HC.out.ad (by omega);subst had;have hlt' : j < cs.length := by rw [HN.out]; exact hlt
       have hlti : (j : Int) < (k : Int) := by omega
       have c0 := (HC.out.far HP3.out.bel).nm j hlt';have c1' := (HC.out.far HP3.out.bel).nu j hlt';have h1 := HG.out.ds _ (List.getElem_mem hlt')
       have h2 : DS (4 * d + 1) ((denL 1 cs : Nat) : Rat) := by
        have := DS.int (d := 4 * d + 1) (z := (denL 1 cs : Nat)) (by
         rw [Int.natAbs_natCast];have h3 : 10 ^ (d * 4) < 10 ^ (4 * d + 1) := Nat.pow_lt_pow_right (by omega) (by omega);have := HD4.out
         omega)
        rwa [Rat.intCast_natCast] at this
       have hmu := fun W hW => mustT h1 (by omega) W hW
       have hfi := fun W v (h : IV W v ((denL 1 cs : Nat) : Int)) => ratFromInt_any v _ W h
       rw [Rat.intCast_natCast] at hfi;have hml := fun W u v (hu : RV W u cs[j].2) (hv : RV W v ((denL 1 cs : Nat) : Rat)) => ratMul_any u v _ _ W hu hv (ds_rs (k := 100) h1 (by omega)) (ds_rs (k := 300) h2 (by omega)) (by omega)
       have hnm := fun W v (h : RV W v (cs[j].2 * ((denL 1 cs : Nat) : Rat))) => ratNum_any v (cs[j].2 * ((denL 1 cs : Nat) : Rat)) W h
       have hgc := fun W u v (hu : IV W u ((numL (denL 1 cs) 0 (cs.take j) : Nat) : Int)) (hv : IV W v (cs[j].2 * ((denL 1 cs : Nat) : Rat)).num) => gcd_any u v _ _ W hu hv (HFG.out j) (fit_ten (k := d + (4 * d + 1)) (Nat.le_of_lt (h1.mul h2).1) (by omega))
       have hsn : Int.gcd ((numL (denL 1 cs) 0 (cs.take j) : Nat) : Int) (cs[j].2 * ((denL 1 cs : Nat) : Rat)).num = numL (denL 1 cs) 0 (cs.take (j + 1)) := by
        rw [List.take_succ_eq_append_getElem hlt', numL_snoc];unfold Int.gcd;rw [Int.natAbs_natCast]
       rw [hsn] at hgc;have HMU := hid hmu;have HFI := hid hfi;have HML := hid hml;have HNM := hid hnm;have HGC := hid hgc;clear hmu hfi hml hnm hgc hsn h1 h2;generalize (cs[j].2 * ((denL 1 cs : Nat) : Rat)).num = znm at *;generalize cs[j].2 * ((denL 1 cs : Nat) : Rat) = qm at *;generalize (⟨cs[j].1.toArray⟩ : ByteArray) = tn at *;obtain ⟨tq, htq⟩ : ∃ tq : ByteArray, TX cs[j].2 = tq := ⟨_, rfl⟩
       rw [htq] at c1' HMU;obtain ⟨cq, hcq⟩ : ∃ cq : Rat, cs[j].2 = cq := ⟨_, rfl⟩
       rw [hcq] at HMU HML;clear htq hcq;obtain ⟨zg, hzg⟩ : ∃ z : Int, ((numL (denL 1 cs) 0 (cs.take j) : Nat) : Int) = z := ⟨_, rfl⟩
       rw [hzg] at HP3 HGC;obtain ⟨zg1, hzg1⟩ : ∃ z : Int, ((numL (denL 1 cs) 0 (cs.take (j + 1)) : Nat) : Int) = z := ⟨_, rfl⟩
       have HZ := hid hzg1;rw [hzg1] at HGC;obtain ⟨zd, hzd⟩ : ∃ z : Int, ((denL 1 cs : Nat) : Int) = z := ⟨_, rfl⟩
       have HZD := hid hzd;rw [hzd] at HP3 HFI;clear hzg hzg1 hzd;obtain ⟨qd, hqd⟩ : ∃ q : Rat, ((denL 1 cs : Nat) : Rat) = q := ⟨_, rfl⟩
       rw [hqd] at HFI HML;clear hqd;obtain ⟨s', b', ao', n', c', hC1⟩ := iv_form HP3.out.vd;injection hC1 with hC1;subst hC1;obtain ⟨s'', b'', ao'', n'', c'', hC2⟩ := iv_form HP3.out.vg;injection hC2 with hC2;subst hC2
       go_wp2_with fail
       have hal : Below wr.heap.size wr (wr.alloc (.cells #[.string tn, .string tq] 79)) := (Below.refl _ _).alloc (Nat.le_refl _) _;have HP4 := hid (HP3.out.far hal);have HN2 := hid (heap_alloc_new wr (.cells #[.string tn, .string tq] 79));clear hal c0 c1';generalize wr.alloc (.cells #[.string tn, .string tq] 79) = wa at *;generalize wr.heap.size = N at *;refine add_region [[], [], [1], [1, 2], [], [1, 2, 3, 4], [1, 2, 3, 4, 5], [1, 2, 3, 4, 5, 6], [0, 1, 2, 3, 4, 5, 6, 7], [0, 1, 2, 3, 4, 5, 6, 7, 8]] (fun W => PQ w W D G #[.int .i64 s', .bool b', .slice ao' n' c'] #[.int .i64 s'', .bool b'', .slice ao'' n'' c''] zd zg ∧ W.heap[N]? = some (.cells #[.string tn, .string tq] 79 (0, 0))) (fun _ => True) ?_
       iterate 3
        apply a_con
        · intro x; go_simp; done
        · intro x W R hW hF hR;have p0 := heap_cell hW.1.hd 0;have p1 := heap_cell hW.1.hd 1;have p2 := heap_cell hW.1.hd 2;have q0 := heap_cell hW.2 0;have q1 := heap_cell hW.2 1;have g0 := heap_cell hW.1.hg 0;have g1 := heap_cell hW.1.hg 1;have g2 := heap_cell hW.1.hg 2;clear hF;unfold addAt
          go_simp
          simp only [addUpon];exact hR _ (Below.refl _ _)
        simp only [Act.put, List.setIfInBounds_toArray, List.set_cons_zero, List.set_cons_succ]
       refine a_opq (fun v W => RV W v (cq)) (fun _ _ _ h hb => h.far hb) ?_ ?_ ?_
       · intro x; go_simp; done
       · intro x W R hW hF hR;clear hF;unfold addAt
         go_simp
         simp only [addUpon];refine (HMU.out W (HE.out.far hW.1.bel)).mono ?_;rintro e w' ⟨v, rfl, hv, hb⟩;exact ⟨v, rfl, hR _ _ hv hb⟩
       simp only [Act.put, List.setIfInBounds_toArray, List.set_cons_zero, List.set_cons_succ, List.length_cons, List.length_nil, Nat.zero_add, Nat.reduceAdd];apply a_con
       · intro x; go_simp; done
       · intro x W R hW hF hR;have p0 := heap_cell hW.1.hd 0;have p1 := heap_cell hW.1.hd 1;have p2 := heap_cell hW.1.hd 2;have q0 := heap_cell hW.2 0;have q1 := heap_cell hW.2 1;have g0 := heap_cell hW.1.hg 0;have g1 := heap_cell hW.1.hg 1;have g2 := heap_cell hW.1.hg 2;clear hF;unfold addAt
         go_simp
         simp only [addUpon];exact hR _ (Below.refl _ _)
       simp only [Act.put, List.setIfInBounds_toArray, List.set_cons_zero, List.set_cons_succ];refine a_opq (fun v W => RV W v (qd)) (fun _ _ _ h hb => h.far hb) ?_ ?_ ?_
       · intro x; go_simp; done
       · intro x W R hW hF hR;clear hF;unfold addAt
         go_simp
         simp only [addUpon];refine (HFI.out W _ hW.1.vd).mono ?_;rintro e w' ⟨v, rfl, hv, hb⟩;exact ⟨v, rfl, hR _ _ hv hb⟩
       simp only [Act.put, List.setIfInBounds_toArray, List.set_cons_zero, List.set_cons_succ, List.length_cons, List.length_nil, Nat.zero_add, Nat.reduceAdd];refine a_opq (fun v W => RV W v (qm)) (fun _ _ _ h hb => h.far hb) ?_ ?_ ?_
       · intro x; go_simp; done
       · intro x W R hW hF hR;have hu := hF.1.2 rfl rfl rfl;have hv' := hF.2.2.1.2 rfl rfl rfl;simp only [AK.fact] at hu hv';clear hF;unfold addAt
         go_simp
         simp only [addUpon];refine (HML.out W _ _ hv' hu).mono ?_;rintro e w' ⟨v, rfl, hv, hb⟩;exact ⟨v, rfl, hR _ _ hv hb⟩
       simp only [Act.put, List.setIfInBounds_toArray, List.set_cons_zero, List.set_cons_succ, List.length_cons, List.length_nil, Nat.zero_add, Nat.reduceAdd];refine a_opq (fun v W => IV W v (znm)) (fun _ _ _ h hb => h.far hb) ?_ ?_ ?_
       · intro x; go_simp; done
       · intro x W R hW hF hR;have hu := hF.1.2 rfl rfl rfl;simp only [AK.fact] at hu;clear hF;unfold addAt
         go_simp
         simp only [addUpon];refine (HNM.out W _ hu).mono ?_;rintro e w' ⟨v, rfl, hv, hb⟩;exact ⟨v, rfl, hR _ _ hv hb⟩
       simp only [Act.put, List.setIfInBounds_toArray, List.set_cons_zero, List.set_cons_succ, List.length_cons, List.length_nil, Nat.zero_add, Nat.reduceAdd];refine a_opq (fun v W => IV W v (zg1)) (fun _ _ _ h hb => h.far hb) ?_ ?_ ?_
       · intro x; go_simp; done
       · intro x W R hW hF hR;have hu := hF.1.2 rfl rfl rfl;simp only [AK.fact] at hu;clear hF;unfold addAt
         go_simp
         simp only [addUpon];refine (HGC.out W _ _ hW.1.vg hu).mono ?_;rintro e w' ⟨v, rfl, hv, hb⟩;exact ⟨v, rfl, hR _ _ hv hb⟩
       simp only [Act.put, List.setIfInBounds_toArray, List.set_cons_zero, List.set_cons_succ, List.length_cons, List.length_nil, Nat.zero_add, Nat.reduceAdd];refine a_wrt (fun _ W => ∃ C2, PQ w W D G #[.int .i64 s', .bool b', .slice ao' n' c'] C2 zd zg1) (fun _ _ _ h hb => let ⟨C1, h⟩ := h; ⟨C1, h.far hb⟩) (fun _ _ _ _ h => h) ?_ ?_ ?_
       · intro x; go_simp; done
       · intro x W R hW hF hD hR;have hu := hF.1.2 rfl rfl rfl;simp only [AK.fact] at hu;obtain ⟨s2, b2, ao2, n2, c2, hx⟩ := iv_form hu;rw [hx] at hu;simp only [hx];have e0 := heap_cell hW.1.hg 0;have e1 := heap_cell hW.1.hg 1;have e2 := heap_cell hW.1.hg 2;have fr := fun i => heap_fz hW.1.hg i
         clear hF hD;unfold addAt
         go_simp
         simp only [addUpon];exact hR _ _ ⟨_, hW.1.setG hu⟩ trivial (by simp [World.setCell])
       simp only [Act.put];refine a_nil (by kernel_rfl) (by kernel_rfl) (by kernel_rfl) (fun _ _ h hb => ⟨h.1.far hb, (hb.block _ (lt_of_heap h.2)).trans h.2⟩) (fun _ _ _ _ => trivial) (fun _ _ => trivial) (⟨HP4.out.far (Below.refl _ _).drew, HN2.out⟩) ?_;intro x W hE hW hF hD;clear hD;obtain ⟨C2, hp⟩ := hF.1.2 rfl;rw [← HZ.out, ← HZD.out] at hp;have HP5 := hid hp;clear hF hW hp
       go_wp2_with fail
       go_roundg (k - (j + 1))
       case rel => exact ⟨j + 1, _, C2, rfl, by omega, by go_num, HP5.out⟩
       case measure => omega
     · obtain rfl : j = k := by omega
       have hlti : ¬ ((j : Int) < (j : Int)) := by omega
       have hall : cs.take j = cs := by rw [← HN.out]; exact List.take_length
       have hfg := HFG.out j;rw [hall] at HP3 hfg;have hgp := (prim_is hne (can_nz HG.out.can)).1;have hqo := fun W u v (hu : IV W u ((denL 1 cs : Nat) : Int)) (hv : IV W v ((numL (denL 1 cs) 0 cs : Nat) : Int)) => quotient_any u v _ _ W hu hv (fit_ten (k := d * 4) (by rw [Int.natAbs_natCast]; exact HD4.out) (by omega)) hfg (by omega)
       have hkp : Rat.divInt ((denL 1 cs : Nat) : Int) ((numL (denL 1 cs) 0 cs : Nat) : Int) = kP cs := by
        rw [Rat.divInt_eq_div, Rat.intCast_natCast, Rat.intCast_natCast]; rfl
       rw [hkp] at hqo;have HQO := hid hqo;clear hqo hkp hgp hfg hall hlti hlt;obtain ⟨s', b', ao', n', c', hC1⟩ := iv_form HP3.out.vd;injection hC1 with hC1;subst hC1;obtain ⟨s'', b'', ao'', n'', c'', hC2⟩ := iv_form HP3.out.vg;injection hC2 with hC2;subst hC2;have p0 := heap_cell HP3.out.hd 0;have p1 := heap_cell HP3.out.hd 1;have p2 := heap_cell HP3.out.hd 2;have q0 := heap_cell HP3.out.hg 0;have q1 := heap_cell HP3.out.hg 1;have q2 := heap_cell HP3.out.hg 2
       go_wp2_with fail
       refine (HQO.out _ _ _ HP3.out.vd HP3.out.vg).mono ?_;rintro e w5 ⟨v, rfl, hv, hb⟩;have HP5 := hid (HP3.out.far hb);obtain ⟨s3, b3, ao3, n3, c3, s4, b4, ao4, n4, c4, rfl, i1, i2⟩ := rv_form hv;have HI1 := hid i1;have HI2 := hid i2;clear hv hb i1 i2 p0 p1 p2 q0 q1 q2;have r0 := heap_cell HP5.out.r 0;have r1 := heap_cell HP5.out.r 1;have r2 := heap_cell HP5.out.r 2;have r3 := heap_cell HP5.out.r 3;have r4 := heap_cell HP5.out.r 4;have r5 := heap_cell HP5.out.r 5;have fr := fun i => heap_fz HP5.out.r i
       go_wp2_with fail
       exact end_rat Tryz.results124 rfl rfl HP5.out.r HI1.out HI2.out HP5.out.bel (Nat.le_refl _)
end
end Go.Proofs.YteoklapcifonaaaGreatDoor
/- Normal at a comparison by RelLe of sort SortInt; the sanity check. -/
namespace Go.Proofs.YteoklapcifonaaaGreatDoor
open Go.RowKit Nmx
theorem set5_heap {w : World} {R : Nat} {y0 y1 y2 y3 y4 : Value} {t : TypeId} (h : w.heap[R]? = some (.cells #[y0, y1, y2, y3, y4] t (0, 0))) (x0 x1 x2 x3 x4 : Value) : (((((w.setCell ⟨R, 0, none⟩ x0).setCell ⟨R, 1, none⟩ x1).setCell ⟨R, 2, none⟩ x2).setCell ⟨R, 3, none⟩ x3).setCell ⟨R, 4, none⟩ x4).heap[R]? = some (.cells #[x0, x1, x2, x3, x4] t (0, 0)) := by
 have := heap_set (heap_set (heap_set (heap_set (heap_set h 0 x0) 1 x1) 2 x2) 3 x3) 4 x4
 simpa using this
theorem set5_other {w : World} {R : Nat} (x0 x1 x2 x3 x4 : Value) {g : Nat} (hg : g ≠ R) : (((((w.setCell ⟨R, 0, none⟩ x0).setCell ⟨R, 1, none⟩ x1).setCell ⟨R, 2, none⟩ x2).setCell ⟨R, 3, none⟩ x3).setCell ⟨R, 4, none⟩ x4).heap[g]? = w.heap[g]? := by
 rw [Below.heap_setCell _ _ _ _ hg, Below.heap_setCell _ _ _ _ hg, Below.heap_setCell _ _ _ _ hg, Below.heap_setCell _ _ _ _ hg, Below.heap_setCell _ _ _ _ hg]
theorem set5_below {B : Nat} {W w : World} {R : Nat} (h : Below B W w) (hR : B ≤ R) (x0 x1 x2 x3 x4 : Value) : Below B W (((((w.setCell ⟨R, 0, none⟩ x0).setCell ⟨R, 1, none⟩ x1).setCell ⟨R, 2, none⟩ x2).setCell ⟨R, 3, none⟩ x3).setCell ⟨R, 4, none⟩ x4) :=
 ((((h.setCell (show B ≤ R from hR) _).setCell (show B ≤ R from hR) _).setCell (show B ≤ R from hR) _).setCell (show B ≤ R from hR) _).setCell (show B ≤ R from hR) _
theorem tx_int (z : Int) : TX (z : Rat) = ⟨(decI z).toArray⟩ := by
 show (⟨(textQ (z : Rat)).toArray⟩ : ByteArray) = _
 congr 2
 unfold textQ;rw [Rat.num_intCast, Rat.den_intCast]
 simp
theorem intString_any {v : Value} {z : Int} {w : World} (h : IV w v z) (hE : Env w) : Calls Tryz.prog 122 #[v] w fun e w' => e = .returned (.string (TX (z : Rat))) ∧ Below w.heap.size w w' := by
 rw [tx_int];rcases h with ⟨rfl, hs⟩ | ⟨b, g, off, cap, l, rfl, hw, hl, rfl⟩
 · exact intString_small z w hE hs
 · exact intString_big b g off cap l w hE hw hl
/-- a constraint is handed back -/
theorem end_con {fn : Func} {t : Tmp} {a : Act} {w2 : World} {R : Nat} {r s : Int} {ao : Option Addr} {n c : Nat} {tx tm : ByteArray} {post : Ending → World → Prop} (hres : fn.results = #[.cell t 39]) (hd : a.defers = []) (ht : a.tmps.getD t undef = .pointer (some ⟨R, 0, none⟩))
    (hR : w2.heap[R]? = some (.cells #[.int .i64 r, .int .i64 s, .slice ao n c, .string tx, .string tm] 39 (0, 0))) (h : post (.returned (.agg #[.int .i64 r, .int .i64 s, .slice ao n c, .string tx, .string tm])) w2) :
    bodyPost Tryz.prog fn post .ret a w2 := by
 have k0 := heap_cell hR 0;have k1 := heap_cell hR 1;have k2 := heap_cell hR 2;have k3 := heap_cell hR 3;have k4 := heap_cell hR 4
 simp at k0 k1 k2 k3 k4
 refine bodyPost_ret (v := .agg #[.int .i64 r, .int .i64 s, .slice ao n c, .string tx, .string tm]) ?_ hd h;have ht' : a.tmps[t]?.getD undef = .pointer (some ⟨R, 0, none⟩) := by simpa using ht
 simp [results, hres, go_sem, ht', k0, k1, k2, k3, k4]
theorem end_con2 {fn : Func} {t u : Tmp} {a : Act} {w2 : World} {R : Nat} {r s : Int} {ao : Option Addr} {n c : Nat} {tx tm : ByteArray} {post : Ending → World → Prop} (hres : fn.results = #[.cell t 39, .tmp u]) (hd : a.defers = []) (ht : a.tmps.getD t undef = .pointer (some ⟨R, 0, none⟩)) (hu : a.tmps.getD u undef = .int .i64 0)
    (hR : w2.heap[R]? = some (.cells #[.int .i64 r, .int .i64 s, .slice ao n c, .string tx, .string tm] 39 (0, 0))) (h : post (.returned (.tuple #[.agg #[.int .i64 r, .int .i64 s, .slice ao n c, .string tx, .string tm], .int .i64 0])) w2) :
    bodyPost Tryz.prog fn post .ret a w2 := by
 have k0 := heap_cell hR 0;have k1 := heap_cell hR 1;have k2 := heap_cell hR 2;have k3 := heap_cell hR 3;have k4 := heap_cell hR 4
 simp at k0 k1 k2 k3 k4
 refine bodyPost_ret (v := .tuple #[.agg #[.int .i64 r, .int .i64 s, .slice ao n c, .string tx, .string tm], .int .i64 0]) ?_ hd h;have ht' : a.tmps[t]?.getD undef = .pointer (some ⟨R, 0, none⟩) := by simpa using ht
 have hu' : a.tmps[u]?.getD undef = .int .i64 0 := by simpa using hu
 simp [results, hres, go_sem, ht', hu', k0, k1, k2, k3, k4]
/-- the boxes of normalComparison -/
structure NB (w W : World) (T : Nat) (a1 : Option Addr) (n1 c1 : Nat) (t1 : ByteArray) (x0 x1 x2 x3 x4 x5 : Value) (k : Rat) : Prop where
 a : W.heap[w.heap.size]? = some (.cells #[.int .i64 1, .int .i64 2, .slice a1 n1 c1, .string t1, .string ⟨#[]⟩] 39 (0, 0))
 r : W.heap[w.heap.size + 1]? = some (.cells #[.int .i64 0, .int .i64 0, .slice none 0 0, .string ⟨#[]⟩, .string ⟨#[]⟩] 39 (0, 0))
 t : W.heap[T]? = some (.cells #[x0, x1, x2, x3, x4, x5] 85 (0, 0))
 kv : RV W (.agg #[x0, x1, x2, x3, x4, x5]) k
 lt : w.heap.size + 1 < T
 bel : Below w.heap.size w W
theorem NB.far {w W W' : World} {T : Nat} {a1 : Option Addr} {n1 c1 : Nat} {t1 : ByteArray} {x0 x1 x2 x3 x4 x5 : Value} {k : Rat} (h : NB w W T a1 n1 c1 t1 x0 x1 x2 x3 x4 x5 k) (hb : Below W.heap.size W W') : NB w W' T a1 n1 c1 t1 x0 x1 x2 x3 x4 x5 k :=
 ⟨(hb.block _ (lt_of_heap h.a)).trans h.a, (hb.block _ (lt_of_heap h.r)).trans h.r, (hb.block _ (lt_of_heap h.t)).trans h.t, h.kv.far hb, h.lt, h.bel.trans (hb.mono h.bel.size)⟩
theorem RV.but {w w' : World} {v : Value} {q : Rat} (h : RV w v q) {R : Nat} {cs : Array Value} {t : TypeId} {fr : Nat × Nat} (hR : w.heap[R]? = some (.cells cs t fr)) (ht : t ≠ 145) (ho : ∀ g, g ≠ R → w'.heap[g]? = w.heap[g]?) : RV w' v q :=
 h.kept (words_but hR ht fun g _ hg => ho g hg)
theorem NB.put {w W : World} {T : Nat} {a1 : Option Addr} {n1 c1 : Nat} {t1 : ByteArray} {x0 x1 x2 x3 x4 x5 : Value} {k : Rat} (h : NB w W T a1 n1 c1 t1 x0 x1 x2 x3 x4 x5 k) {y0 y1 y2 y3 y4 y5 : Value} {q : Rat} (hq : RV W (.agg #[y0, y1, y2, y3, y4, y5]) q) : NB w ((((((W.setCell ⟨T, 0, none⟩ y0).setCell ⟨T, 1, none⟩ y1).setCell ⟨T, 2, none⟩ y2).setCell ⟨T, 3, none⟩ y3).setCell ⟨T, 4, none⟩ y4).setCell ⟨T, 5, none⟩ y5) T a1 n1 c1 t1 y0 y1 y2 y3 y4 y5 q := by
 have h1 := h.lt;have ho : ∀ g, g ≠ T → ((((((W.setCell ⟨T, 0, none⟩ y0).setCell ⟨T, 1, none⟩ y1).setCell ⟨T, 2, none⟩ y2).setCell ⟨T, 3, none⟩ y3).setCell ⟨T, 4, none⟩ y4).setCell ⟨T, 5, none⟩ y5).heap[g]? = W.heap[g]? := fun _ hg => set6_other hg _ _ _ _ _ _
 exact ⟨(ho _ (by omega)).trans h.a, (ho _ (by omega)).trans h.r, set6_heap h.t _ _ _ _ _ _, hq.but h.t (by decide) ho, h1, set6_below h.bel (by omega) _ _ _ _ _ _⟩
theorem NB.other {w W : World} {T : Nat} {a1 : Option Addr} {n1 c1 : Nat} {t1 : ByteArray} {x0 x1 x2 x3 x4 x5 : Value} {k : Rat} (_h : NB w W T a1 n1 c1 t1 x0 x1 x2 x3 x4 x5 k) (y0 y1 y2 y3 y4 y5 : Value) : ∀ g, g ≠ T → ((((((W.setCell ⟨T, 0, none⟩ y0).setCell ⟨T, 1, none⟩ y1).setCell ⟨T, 2, none⟩ y2).setCell ⟨T, 3, none⟩ y3).setCell ⟨T, 4, none⟩ y4).setCell ⟨T, 5, none⟩ y5).heap[g]? = W.heap[g]? := fun _ hg => set6_other hg _ _ _ _ _ _
theorem LV.const {w : World} {s : Int} {ao : Option Addr} {n c : Nat} {tx : ByteArray} {d e : Nat} {p q : Rat} {rs : List (List UInt8 × Rat)} (h : LV w (.agg #[.int .i64 s, .slice ao n c, .string tx]) s d p rs) (hq : DS e q) (hd : d ≤ e) : LV w (.agg #[.int .i64 s, .slice ao n c, .string (TX q)]) s e q rs := by
 obtain ⟨ao', g, off, cap, he, h1, h2, h3, h4⟩ := h;injection he with he;injection he with he;injection he with _ he;injection he with he1 he;injection he1 with e1 e2 e3;subst e1 e2 e3;exact ⟨_, g, off, _, rfl, h1, h2, h3.mono hd, hq⟩
/-- a comparison's normal form is handed back -/
def GetsC (d : Nat) (c : Rat) (f : List UInt8 → Rat) (w : World) (e : Ending) (w' : World) : Prop := ∃ rs ao n cp tx, e = .returned (.agg #[.int .i64 1, .int .i64 2, .slice ao n cp, .string tx, .string ⟨#[]⟩]) ∧ LV w' (.agg #[.int .i64 2, .slice ao n cp, .string tx]) 2 d c rs ∧ (∀ n, cof rs n = f n) ∧ Below w.heap.size w w'
def GetsCE (d : Nat) (c : Rat) (f : List UInt8 → Rat) (w : World) (e : Ending) (w' : World) : Prop := ∃ rs ao n cp tx, e = .returned (.tuple #[.agg #[.int .i64 1, .int .i64 2, .slice ao n cp, .string tx, .string ⟨#[]⟩], .int .i64 0]) ∧ LV w' (.agg #[.int .i64 2, .slice ao n cp, .string tx]) 2 d c rs ∧ (∀ n, cof rs n = f n) ∧ Below w.heap.size w w'
theorem ds_ce {d : Nat} {p : Rat} (h : DS d p) : DS (d + 1) ((ceI p : Int) : Rat) := by
 unfold ceI;have := h.neg.fl;have e : ((-flI (-p) : Int) : Rat) = -((flI (-p) : Int) : Rat) := Rat.intCast_neg _;rw [e];exact this.neg
section
set_option maxRecDepth 100000
set_option maxHeartbeats 8000000
theorem normalLe {d : Nat} {w : World} {a1 : Option Addr} {n1 c1 : Nat} {t1 : ByteArray} {p : Rat} {cs : List (List UInt8 × Rat)} (h : LV w (.agg #[.int .i64 2, .slice a1 n1 c1, .string t1]) 2 d p cs) (hne : cs ≠ []) (hd : d ≤ 70) (hE : Env w) :
    Calls Tryz.prog 68 #[.agg #[.int .i64 1, .int .i64 2, .slice a1 n1 c1, .string t1, .string ⟨#[]⟩]] w (GetsC (27 * d + 8) ((ceI (kP cs * p) : Int) : Rat) (fun n => kP cs * cof cs n) w) := by
 have h0 := h;obtain ⟨a1', g1, o1, c1', he, hc1, hty, hg1, d1⟩ := h;injection he with he;injection he with he;injection he with _ he;injection he with he1 he;injection he with he2 he;injection he1 with e1 e2 e3;injection he2 with e4;subst e1 e3 e2 e4;clear he;have hcl := can_len hg1.can hg1.nm;have dk : DS (9 * d + 2) (kP cs) := kP_ds hne (can_nz hg1.can) hg1.ds hcl;have hpr : ∀ W, Below w.heap.size w W → Calls Tryz.prog 124 #[.slice a1 cs.length c1] W (GetsQ (kP cs) W) := fun W hW => primitive_any W cs a1 g1 o1 c1 (hc1.far hW) hg1 hne (by omega) (hE.far hW)
 have hsc : ∀ W u, Below w.heap.size w W → RV W u (kP cs) → Calls Tryz.prog 55 #[.agg #[.int .i64 2, .slice a1 cs.length c1, .string (TX p)], u] W (GetsL 2 (27 * d + 7) (kP cs * p) (fun n => kP cs * cof cs n) W) := fun W u hW hu => by
  have := scaleL ((h0.far hW).mono (e := 9 * d + 2) (by omega)) hu dk (by omega) (hE.far hW);rwa [show 3 * (9 * d + 2) + 1 = 27 * d + 7 by omega] at this
 have dkp : DS (10 * d + 2) (kP cs * p) := (dk.mul d1).mono (by omega);have hmk : ∀ W, Below w.heap.size w W → Calls Tryz.prog 56 #[.string (TX (kP cs * p))] W (GetsQ (kP cs * p) W) := fun W hW => mustT dkp (by omega) W (hE.far hW)
 have hce : ∀ W u, RV W u (kP cs * p) → Calls Tryz.prog 126 #[u] W (GetsI (ceI (kP cs * p)) W) := fun W u hu => ratCeil_any u _ W hu (ds_rs (k := 100) dkp (by omega)) (by omega)
 have hst : ∀ W u, Below w.heap.size w W → IV W u (ceI (kP cs * p)) → Calls Tryz.prog 122 #[u] W fun e w' => e = .returned (.string (TX ((ceI (kP cs * p) : Int) : Rat))) ∧ Below W.heap.size W w' := fun W u hW hu => intString_any hu (hE.far hW)
 have hdc : DS (27 * d + 8) ((ceI (kP cs * p) : Int) : Rat) := (ds_ce dkp).mono (by omega);obtain ⟨n1, hn1⟩ : ∃ n, cs.length = n := ⟨_, rfl⟩
 rw [hn1] at hpr hsc ⊢;clear hn1 h0 dk dkp;obtain ⟨m1, m2, mb⟩ := newL2 w (.cells #[.int .i64 1, .int .i64 2, .slice a1 n1 c1, .string (TX p), .string ⟨#[]⟩] 39) (.cells #[.int .i64 0, .int .i64 0, .slice none 0 0, .string ⟨#[]⟩, .string ⟨#[]⟩] 39);have HM1 := hid m1;have HM2 := hid m2;have HMB := hid mb;have HPR := hid hpr;have HSC := hid hsc;have HMK := hid hmk;have HCE := hid hce;have HST := hid hst;have HDC := hid hdc;clear m1 m2 mb hpr hsc hmk hce hst hdc;generalize TX p = t1 at *
 obtain ⟨zc, hzc⟩ : ∃ z, ceI (kP cs * p) = z := ⟨_, rfl⟩
 rw [hzc] at HCE HST HDC ⊢;obtain ⟨tz, htz⟩ : ∃ tz, TX ((zc : Int) : Rat) = tz := ⟨_, rfl⟩
 have HTZ := hid htz;rw [htz] at HST;obtain ⟨tk, htk⟩ : ∃ tk, TX (kP cs * p) = tk := ⟨_, rfl⟩
 have HTK := hid htk;rw [htk] at HMK;clear hzc htz htk
 go_enter Tryz.func68, Tryz.ntmps68
 go_wp2_with fail
 generalize (w.alloc (.cells #[.int .i64 1, .int .i64 2, .slice a1 n1 c1, .string t1, .string ⟨#[]⟩] 39)).alloc (.cells #[.int .i64 0, .int .i64 0, .slice none 0 0, .string ⟨#[]⟩, .string ⟨#[]⟩] 39) = w3 at *;refine (HPR.out _ HMB.out).mono ?_;rintro e w4 ⟨v4, rfl, hv, hb⟩;obtain ⟨s3, b3, ao3, n3, c3, s4, b4, ao4, n4, c4, rfl, i1, i2⟩ := rv_form hv;have hal : Below w4.heap.size w4 (w4.alloc (.cells #[.int .i64 s3, .bool b3, .slice ao3 n3 c3, .int .i64 s4, .bool b4, .slice ao4 n4 c4] 85)) := (Below.refl _ _).alloc (Nat.le_refl _) _;have hb2 := hb.trans (hal.mono hb.size);have hlt := lt_of_heap ((hb.block _ (lt_of_heap HM2.out)).trans HM2.out)
 have hNB : NB w (w4.alloc (.cells #[.int .i64 s3, .bool b3, .slice ao3 n3 c3, .int .i64 s4, .bool b4, .slice ao4 n4 c4] 85)) w4.heap.size a1 n1 c1 t1 (.int .i64 s3) (.bool b3) (.slice ao3 n3 c3) (.int .i64 s4) (.bool b4) (.slice ao4 n4 c4) (kP cs) :=
  ⟨(hb2.block _ (lt_of_heap HM1.out)).trans HM1.out, (hb2.block _ (lt_of_heap HM2.out)).trans HM2.out, heap_alloc_new _ _, hv.far hal, hlt, HMB.out.trans (hb2.mono HMB.out.size)⟩
 have HK := hid hNB;have q0 := heap_cell hNB.a 0;clear hv hb i1 i2 hal hb2 hlt hNB
 go_wp2_with fail
 generalize w4.alloc (.cells #[.int .i64 s3, .bool b3, .slice ao3 n3 c3, .int .i64 s4, .bool b4, .slice ao4 n4 c4] 85) = w5 at *;generalize w4.heap.size = T at *;clear q0;refine add_region [[], [0], [], [2], [], [2, 3, 4], [0, 1, 2, 3, 4, 5], [], [0, 1, 2, 3, 4, 5, 6, 7]] (fun W => NB w W T a1 n1 c1 t1 (.int .i64 s3) (.bool b3) (.slice ao3 n3 c3) (.int .i64 s4) (.bool b4) (.slice ao4 n4 c4) (kP cs)) (fun _ => True) ?_
 iterate 5
  apply a_con
  · intro x; go_simp; done
  · intro x W R hW hF hR;have p0 := heap_cell hW.a 0;have p1 := heap_cell hW.a 1;have p2 := heap_cell hW.a 2;have p3 := heap_cell hW.a 3;have z0 := heap_cell hW.t 0;have z1 := heap_cell hW.t 1;have z2 := heap_cell hW.t 2;have z3 := heap_cell hW.t 3;have z4 := heap_cell hW.t 4;have z5 := heap_cell hW.t 5;clear hF;unfold addAt
    go_simp
    simp only [addUpon];exact hR _ (Below.refl _ _)
  simp only [Act.put, List.setIfInBounds_toArray, List.set_cons_zero, List.set_cons_succ]
 refine a_opq (fun v W => ∃ rs, LV W (v) 2 (27 * d + 7) (kP cs * p) rs ∧ ∀ n, cof rs n = kP cs * cof cs n) (fun _ _ _ h hb => let ⟨rs, h1, h2⟩ := h; ⟨rs, h1.far hb, h2⟩) ?_ ?_ ?_
 · intro x; go_simp; done
 · intro x W R hW hF hR;clear hF;unfold addAt
   go_simp
   simp only [addUpon];refine (HSC.out W _ hW.bel hW.kv).mono ?_;rintro e w' ⟨rs, v, rfl, hl, hf, hb⟩;exact ⟨v, rfl, hR _ _ ⟨rs, hl, hf⟩ hb⟩
 simp only [Act.put, List.setIfInBounds_toArray, List.set_cons_zero, List.set_cons_succ, List.length_cons, List.length_nil, Nat.zero_add, Nat.reduceAdd];refine a_opq (fun v W => ∃ rs ao n c tx, v = .agg #[.int .i64 1, .int .i64 2, .slice ao n c, .string tx, .string ⟨#[]⟩] ∧ LV W (.agg #[.int .i64 2, .slice ao n c, .string tx]) 2 (27 * d + 7) (kP cs * p) rs ∧ ∀ n, cof rs n = kP cs * cof cs n) (fun _ _ _ h hb => let ⟨rs, ao, n, c, tx, h0, h1, h2⟩ := h; ⟨rs, ao, n, c, tx, h0, h1.far hb, h2⟩) ?_ ?_ ?_
 · intro x; go_simp; done
 · intro x W R hW hF hR;have hu := hF.1.2 rfl rfl rfl;simp only [AK.fact] at hu;obtain ⟨rs, hl, hf⟩ := hu;have HL := hid hl;have HF := hid hf;obtain ⟨ao, g, off, c, hx, -⟩ := hl;have HX := hid hx;simp only [hx];clear hF hx hf;unfold addAt
   go_simp
   simp only [addUpon];exact hR _ _ ⟨rs, ao, _, c, _, rfl, by rw [← HX.out]; exact HL.out, HF.out⟩ (Below.refl _ _)
 simp only [Act.put, List.setIfInBounds_toArray, List.set_cons_zero, List.set_cons_succ, List.length_cons, List.length_nil, Nat.zero_add, Nat.reduceAdd];refine a_new (fun B W => T < B ∧ W.heap[B]? = some (.cells #[.int .i64 0, .int .i64 0, .slice none 0 0, .string ⟨#[]⟩, .string ⟨#[]⟩] 39 (0, 0))) (fun _ _ _ h hb => ⟨h.1, (hb.block _ (lt_of_heap h.2)).trans h.2⟩) ?_ ?_ ?_
 · intro x; go_simp; done
 · intro x W R hW hF hR;clear hF;unfold addAt
   go_simp
   simp only [addUpon];exact hR _ ⟨lt_of_heap hW.t, heap_alloc_new _ _⟩ ((Below.refl _ _).alloc (Nat.le_refl _) _) (by simp)
 simp only [Act.put, List.setIfInBounds_toArray, List.set_cons_zero, List.set_cons_succ, List.length_cons, List.length_nil, Nat.zero_add, Nat.reduceAdd];refine a_wrt (fun x W => ∃ B rs ao n c tx, x 7 = .pointer (some ⟨B, 0, none⟩) ∧ T < B ∧ W.heap[B]? = some (.cells #[.int .i64 1, .int .i64 2, .slice ao n c, .string tx, .string ⟨#[]⟩] 39 (0, 0)) ∧ NB w W T a1 n1 c1 t1 (.int .i64 s3) (.bool b3) (.slice ao3 n3 c3) (.int .i64 s4) (.bool b4) (.slice ao4 n4 c4) (kP cs) ∧ tx = tk ∧ LV W (.agg #[.int .i64 2, .slice ao n c, .string tx]) 2 (27 * d + 7) (kP cs * p) rs ∧ ∀ n, cof rs n = kP cs * cof cs n) (fun _ _ _ h hb => let ⟨B, rs, ao, n, c, tx, h1, h2, h3, h4, h0, h5, h6⟩ := h; ⟨B, rs, ao, n, c, tx, h1, h2, (hb.block _ (lt_of_heap h3)).trans h3, h4.far hb, h0, h5.far hb, h6⟩) (fun x x' w hx hT => let ⟨B, rs, ao, n, c, tx, h1, h⟩ := hT; ⟨B, rs, ao, n, c, tx, (hx 7 (.inr (List.contains_iff_mem.1 rfl))).symm.trans h1, h⟩) ?_ ?_ ?_
 · intro x; go_simp; done
 · intro x W R hW hF hD hR;have hu := hF.2.1.2 rfl rfl rfl;have hb := hF.1.2 rfl rfl rfl;simp only [AK.fact] at hu hb;obtain ⟨B, hx7, hTB, hB⟩ := hb;obtain ⟨rs, ao, n, c, tx, hx6, hl, hf⟩ := hu
   have htx : tx = tk := by
    obtain ⟨_, _, _, _, he, -⟩ := hl;injection he with he;injection he with he;injection he with _ he;injection he with _ he;injection he with he _;injection he with he;rw [he]; exact HTK.out
   have HL := hid hl;have HF := hid hf;have HTX := hid htx;simp only [hx7, hx6];have e0 := heap_cell hB 0;have e1 := heap_cell hB 1;have e2 := heap_cell hB 2;have e3 := heap_cell hB 3;have e4 := heap_cell hB 4;have fr := fun i => heap_fz hB i
   clear hF hD hl hf htx;unfold addAt
   go_simp
   simp only [addUpon];have hlt := hW.lt;have ho : ∀ g, g ≠ B → (((((W.setCell ⟨B, 0, none⟩ (.int .i64 1)).setCell ⟨B, 1, none⟩ (.int .i64 2)).setCell ⟨B, 2, none⟩ (.slice ao n c)).setCell ⟨B, 3, none⟩ (.string tx)).setCell ⟨B, 4, none⟩ (.string ⟨#[]⟩)).heap[g]? = W.heap[g]? := fun g hg => set5_other _ _ _ _ _ hg
   refine hR _ _ ⟨B, rs, ao, n, c, tx, (updX_ne (i := 8) (j := 7) _ _ (by decide)).trans hx7, hTB, set5_heap hB _ _ _ _ _, ⟨(ho _ (by omega)).trans hW.a, (ho _ (by omega)).trans hW.r, (ho _ (by omega)).trans hW.t, hW.kv.but hB (by decide) ho, hlt, set5_below hW.bel (by omega) _ _ _ _ _⟩, HTX.out, HL.out.but hB (by decide) ho, HF.out⟩ trivial (by simp [World.setCell])
 simp only [Act.put];refine a_nil (by kernel_rfl) (by kernel_rfl) (by kernel_rfl) (fun _ _ h hb => h.far hb) (fun _ _ _ _ => trivial) (fun _ _ => trivial) (HK.out.far (Below.refl _ _).drew) ?_;intro x W hE hW hF hD;clear hD;obtain ⟨B, rs, ao, n, c, tx, hx7, hTB, hB, hN, htx, hl, hf⟩ := hF.1.2 rfl;subst htx;simp only [hx7];have HB := hid hB;have HN := hid hN;have HL := hid hl;have HF := hid hf;have p1 := heap_cell hN.a 1;have e3 := heap_cell hB 3;clear hF hW hx7 hB hN hl hf
 go_wp2_with fail
 refine (HMK.out _ HN.out.bel).mono ?_;rintro e w6 ⟨v6, rfl, hv, hb⟩;have HB6 := hid ((hb.block _ (lt_of_heap HB.out)).trans HB.out);have HN6 := hid (HN.out.far hb);have HL6 := hid (HL.out.far hb);have HV6 := hid hv;obtain ⟨s5, b5, ao5, n5, c5, s6, b6, ao6, n6, c6, rfl, -⟩ := rv_form hv;have z0 := heap_cell HN6.out.t 0;have z1 := heap_cell HN6.out.t 1;have z2 := heap_cell HN6.out.t 2;have z3 := heap_cell HN6.out.t 3;have z4 := heap_cell HN6.out.t 4;have z5 := heap_cell HN6.out.t 5;have fr := fun i => heap_fz HN6.out.t i
 clear hb hv p1 e3
 go_upto_region 8 with fail
 have hN7 := HN6.out.put HV6.out;have ho7 := HN6.out.other (.int .i64 s5) (.bool b5) (.slice ao5 n5 c5) (.int .i64 s6) (.bool b6) (.slice ao6 n6 c6);have hTB6 : B ≠ T := by omega
 have HN7 := hid hN7;have HB7 := hid ((ho7 B hTB6).trans HB6.out);have HL7 := hid (HL6.out.but HN6.out.t (by decide) ho7);clear hN7 ho7 z0 z1 z2 z3 z4 z5 fr HN HB HL HN6 HB6 HL6 HV6;generalize (((((w6.setCell ⟨T, 0, none⟩ (.int .i64 s5)).setCell ⟨T, 1, none⟩ (.bool b5)).setCell ⟨T, 2, none⟩ (.slice ao5 n5 c5)).setCell ⟨T, 3, none⟩ (.int .i64 s6)).setCell ⟨T, 4, none⟩ (.bool b6)).setCell ⟨T, 5, none⟩ (.slice ao6 n6 c6) = w7 at *;have p0 := heap_cell HN7.out.a 0;have z0 := heap_cell HN7.out.t 0;have z1 := heap_cell HN7.out.t 1;have z2 := heap_cell HN7.out.t 2;have z3 := heap_cell HN7.out.t 3;have z4 := heap_cell HN7.out.t 4;have z5 := heap_cell HN7.out.t 5
 go_wp2_with fail
 refine (HCE.out _ _ HN7.out.kv).mono ?_;rintro e w8 ⟨v8, rfl, hv, hb⟩;have HN8 := hid (HN7.out.far hb);have HB8 := hid ((hb.block _ (lt_of_heap HB7.out)).trans HB7.out);have HL8 := hid (HL7.out.far hb);have HV8 := hid hv;clear hb hv p0 z0 z1 z2 z3 z4 z5
 go_wp2_with fail
 refine (HST.out _ _ HN8.out.bel HV8.out).mono ?_;rintro e w9 ⟨rfl, hb⟩;have HN9 := hid (HN8.out.far hb);have HB9 := hid ((hb.block _ (lt_of_heap HB8.out)).trans HB8.out);have HL9 := hid (HL8.out.far hb);clear hb;have e3 := heap_cell HB9.out 3;have fr3 := heap_fz HB9.out 3;have hlt9 := HN9.out.lt;have ho : ∀ g, g ≠ B → (w9.setCell ⟨B, 3, none⟩ (.string tz)).heap[g]? = w9.heap[g]? := fun g hg => Below.heap_setCell _ _ _ _ hg
 have hB10 := heap_set HB9.out 3 (.string tz)
 simp at hB10
 have HB10 := hid hB10;have HR10 := hid ((ho _ (show w.heap.size + 1 ≠ B by omega)).trans HN9.out.r);have HL10 := hid (HL9.out.but HB9.out (by decide) ho);have HBL10 := hid (HN9.out.bel.setCell (p := ⟨B, 3, none⟩) (show w.heap.size ≤ B by omega) (.string tz));clear ho hB10
 go_upto_region 15 with fail
 generalize w9.setCell ⟨B, 3, none⟩ (.string tz) = w10 at *;clear e3 fr3;have e0 := heap_cell HB10.out 0;have e1 := heap_cell HB10.out 1;have e2 := heap_cell HB10.out 2;have e3 := heap_cell HB10.out 3;have e4 := heap_cell HB10.out 4;have r0 := heap_cell HR10.out 0;have r1 := heap_cell HR10.out 1;have r2 := heap_cell HR10.out 2;have r3 := heap_cell HR10.out 3;have r4 := heap_cell HR10.out 4;have fr := fun i => heap_fz HR10.out i
 go_wp2_with fail
 refine end_con rfl rfl rfl (set5_heap HR10.out _ _ _ _ _) ⟨rs, ao, n, c, tz, rfl, ?_, HF.out, set5_below HBL10.out (by omega) _ _ _ _ _⟩;have hlv := HL10.out.const HDC.out (by omega);rw [HTZ.out] at hlv;exact hlv.but HR10.out (by decide) (fun g hg => set5_other _ _ _ _ _ hg)
end
end Go.Proofs.YteoklapcifonaaaGreatDoor
/- Normal at a comparison by RelLe of sort SortInt: ValidConstraint, Normal; the sanity check. -/
namespace Go.Proofs.YteoklapcifonaaaGreatDoor
open Go.RowKit Nmx
section
set_option maxRecDepth 100000
set_option maxHeartbeats 8000000
theorem validLe {d : Nat} {w : World} {a1 : Option Addr} {n1 c1 : Nat} {t1 : ByteArray} {p : Rat} {cs : List (List UInt8 × Rat)} (h : LV w (.agg #[.int .i64 2, .slice a1 n1 c1, .string t1]) 2 d p cs) (hd : d ≤ 3000) (hE : Env w) :
    Calls Tryz.prog 31 #[.agg #[.int .i64 1, .int .i64 2, .slice a1 n1 c1, .string t1, .string ⟨#[]⟩]] w fun e w' => e = .returned (.bool true) ∧ Below w.heap.size w w' := by
 have hal : Below w.heap.size w (w.alloc (.cells #[.int .i64 1, .int .i64 2, .slice a1 n1 c1, .string t1, .string ⟨#[]⟩] 39)) := (Below.refl _ _).alloc (Nat.le_refl _) _;have hv := validL (h.far hal) (.inl rfl) hd (hE.far hal);have HA := hid (heap_alloc_new w (.cells #[.int .i64 1, .int .i64 2, .slice a1 n1 c1, .string t1, .string ⟨#[]⟩] 39));have HB := hid hal;clear h hE hal
 go_enter Tryz.func31, Tryz.ntmps31
 go_wp2_with fail
 refine hv.mono ?_;rintro e w1 ⟨rfl, hb⟩;have hA1 := (hb.block _ (lt_of_heap HA.out)).trans HA.out;have HB1 := hid (HB.out.trans (hb.mono HB.out.size));have p0 := heap_cell hA1 0;have p4 := heap_cell hA1 4;clear hb hv hA1
 go_wp2
 go_ret
 exact ⟨rfl, HB1.out⟩
theorem normalT {d : Nat} {w : World} {a1 : Option Addr} {n1 c1 : Nat} {t1 : ByteArray} {p : Rat} {cs : List (List UInt8 × Rat)} (h : LV w (.agg #[.int .i64 2, .slice a1 n1 c1, .string t1]) 2 d p cs) (hne : cs ≠ []) (hd : d ≤ 70) (hE : Env w) :
    Calls Tryz.prog 26 #[.agg #[.int .i64 1, .int .i64 2, .slice a1 n1 c1, .string t1, .string ⟨#[]⟩]] w (GetsCE (27 * d + 8) ((ceI (kP cs * p) : Int) : Rat) (fun n => kP cs * cof cs n) w) := by
 have hvl : ∀ W, Below w.heap.size w W → Calls Tryz.prog 31 #[.agg #[.int .i64 1, .int .i64 2, .slice a1 n1 c1, .string t1, .string ⟨#[]⟩]] W fun e w' => e = .returned (.bool true) ∧ Below W.heap.size W w' := fun W hW => validLe (h.far hW) (by omega) (hE.far hW)
 have hnc : ∀ W, Below w.heap.size w W → Calls Tryz.prog 68 #[.agg #[.int .i64 1, .int .i64 2, .slice a1 n1 c1, .string t1, .string ⟨#[]⟩]] W (GetsC (27 * d + 8) ((ceI (kP cs * p) : Int) : Rat) (fun n => kP cs * cof cs n) W) := fun W hW => normalLe (h.far hW) hne hd (hE.far hW)
 have hn1 : 0 < n1 := by
  obtain ⟨_, _, _, _, he, -⟩ := h;injection he with he;injection he with he;injection he with _ he;injection he with he1 _;injection he1 with _ e2 _;rw [e2];exact List.length_pos_iff.2 hne
 have HVL := hid hvl;have HNC := hid hnc;obtain ⟨m1, m2, mb⟩ := newL2 w (.cells #[.int .i64 1, .int .i64 2, .slice a1 n1 c1, .string t1, .string ⟨#[]⟩] 39) (.cells #[.int .i64 0, .int .i64 0, .slice none 0 0, .string ⟨#[]⟩, .string ⟨#[]⟩] 39);have HM1 := hid m1;have HM2 := hid m2;have HMB := hid mb;generalize ((ceI (kP cs * p) : Int) : Rat) = qc at *;generalize (fun n => kP cs * cof cs n) = fc at *;have hnn : ((n1 : Int) == 0) = false := by rw [beq_eq_false_iff_ne]; omega
 have hnd : decide ((n1 : Int) = 0) = false := decide_eq_false (by omega);clear hvl hnc m1 m2 mb h hE hn1
 go_enter Tryz.func26, Tryz.ntmps26
 go_wp2_with fail
 generalize (w.alloc (.cells #[.int .i64 1, .int .i64 2, .slice a1 n1 c1, .string t1, .string ⟨#[]⟩] 39)).alloc (.cells #[.int .i64 0, .int .i64 0, .slice none 0 0, .string ⟨#[]⟩, .string ⟨#[]⟩] 39) = w3 at *;refine (HVL.out _ HMB.out).mono ?_;rintro e w4 ⟨rfl, hb⟩;have HA4 := hid ((hb.block _ (lt_of_heap HM1.out)).trans HM1.out);have HR4 := hid ((hb.block _ (lt_of_heap HM2.out)).trans HM2.out);have HB4 := hid (HMB.out.trans (hb.mono HMB.out.size));clear hb;have p0 := heap_cell HA4.out 0;have p1 := heap_cell HA4.out 1;have p2 := heap_cell HA4.out 2;have p3 := heap_cell HA4.out 3;have p4 := heap_cell HA4.out 4
 go_wp2_with fail
 refine (HNC.out _ HB4.out).mono ?_;rintro e w5 ⟨rs, ao, n, cp, tx, rfl, hl, hf, hb⟩;have HR5 := hid ((hb.block _ (lt_of_heap HR4.out)).trans HR4.out);have HB5 := hid (HB4.out.trans (hb.mono HB4.out.size));have HL := hid hl;have HF := hid hf;clear hb hl hf p0 p1 p2 p3 p4;have r0 := heap_cell HR5.out 0;have r1 := heap_cell HR5.out 1;have r2 := heap_cell HR5.out 2;have r3 := heap_cell HR5.out 3;have r4 := heap_cell HR5.out 4;have fr := fun i => heap_fz HR5.out i
 go_wp2_with fail
 exact end_con2 rfl rfl rfl rfl (set5_heap HR5.out _ _ _ _ _) ⟨rs, ao, n, cp, tx, rfl, HL.out.but HR5.out (by decide) (fun g hg => set5_other _ _ _ _ _ hg), HF.out, set5_below HB5.out (by omega) _ _ _ _ _⟩
end
end Go.Proofs.YteoklapcifonaaaGreatDoor

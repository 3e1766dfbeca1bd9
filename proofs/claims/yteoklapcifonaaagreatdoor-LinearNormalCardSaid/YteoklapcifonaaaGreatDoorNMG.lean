/- normalDivides. -/
import Derived.Test.YteoklapcifonaaaGreatDoorNMH
open Go.Lib (hid)
namespace Go.Proofs.YteoklapcifonaaaGreatDoor
open Go.RowKit Nmx
section
set_option maxRecDepth 100000
set_option maxHeartbeats 8000000
theorem normalDivides_any [Nms] {d : Nat} {w : World} {r m : Int} {ao : Option Addr} {n1 c1 : Nat} {t1 : ByteArray} {p : Rat} {cs : List (List UInt8 × Rat)} {post : Ending → World → Prop} (h : LVi w (.agg #[.int .i64 2, .slice ao n1 c1, .string t1]) 2 d p cs) (hr : r = 4 ∨ r = 5) (hm : 1 ≤ m) (hmd : DS d (m : Rat)) (hd : d ≤ 80) (hE : Env w) (hpost : ∀ r' c' f' tm' e w', DF r m p cs r' c' f' tm' → GetsD r' tm' (10 * d + 1) c' f' w e w' → post e w') :
    Calls Tryz.prog 65 #[.agg #[.int .i64 r, .int .i64 2, .slice ao n1 c1, .string t1, .string (TX (m : Rat))]] w post := by
 obtain ⟨ao', g, off, cap, he, hC, hty, hg, dp⟩ := h;injection he with he;injection he with he;injection he with _ he;injection he with he1 he;injection he with he2 he;injection he1 with e1 e2 e3;injection he2 with e4;subst e1 e3 e2 e4;clear he;have hle := hC.le;have hmost := hC.most;have HC := hid hC;have HPOST := hid hpost;have HE := hid hE;have HG := hid hg;have hcl : cs.length ≤ 8 := can_len8 hg;have HCL := hid hcl;have hmk : ∀ W, Below w.heap.size w W → Calls Tryz.prog 56 #[.string (TX p)] W (GetsQ p W) := fun W hW => mustT dp (by omega) W (hE.far hW)
 have hden := fun W v (h : RV W v p) => ratDen_any v p W h
 have HMK := hid hmk;have HDE := hid hden;obtain ⟨n, hn⟩ : ∃ n, cs.length = n := ⟨_, rfl⟩
 have HN := hid hn;rw [hn] at hle ⊢
 have hfd : ∀ k, ar p.den (cs.take k) ≤ p.den * 10 ^ (d * 8) := fun k => by
  have h1 := denL_le (cs.take k) (fun x hx => hg.ds x (List.mem_of_mem_take hx)) p.den;have h2 : (cs.take k).length ≤ 8 := Nat.le_trans (by rw [List.length_take]; exact Nat.min_le_right _ _) hcl;have h3 : 10 ^ (d * (cs.take k).length) ≤ 10 ^ (d * 8) := Nat.pow_le_pow_right (by omega) (Nat.mul_le_mul_left _ h2);exact Nat.le_trans h1 (Nat.mul_le_mul_left _ h3)
 have HFD0 := hid hfd
 have HFD : Hid (∀ k, ar p.den (cs.take k) ≤ 10 ^ (d * 9)) := hid fun k => Nat.le_trans (HFD0.out k) (by
  have := dp.2;rw [show d * 9 = d + d * 8 by omega, Nat.pow_add]
  exact Nat.mul_le_mul_right _ this)
 obtain ⟨tm, htm⟩ : ∃ tm, TX (m : Rat) = tm := ⟨_, rfl⟩
 have HTM := hid htm;have HDP := hid dp;have HMD := hid hmd;rw [htm];clear hpost hmk hden hn hfd htm hE hC hg hty dp hmd hcl;obtain ⟨t1, ht1⟩ : ∃ t, TX p = t := ⟨_, rfl⟩
 have HT1 := hid ht1;rw [ht1] at HMK ⊢;clear ht1;obtain ⟨m1, m2, mb⟩ := newL2 w (.cells #[.int .i64 r, .int .i64 2, .slice ao n c1, .string t1, .string tm] 39) (.cells #[.int .i64 0, .int .i64 0, .slice none 0 0, .string ⟨#[]⟩, .string ⟨#[]⟩] 39);have HM1 := hid m1;have HM2 := hid m2;have HMB := hid mb;clear m1 m2 mb
 go_enter Tryz.func65, Tryz.ntmps65
 go_wp2_with fail
 generalize (w.alloc (.cells #[.int .i64 r, .int .i64 2, .slice ao n c1, .string t1, .string tm] 39)).alloc (.cells #[.int .i64 0, .int .i64 0, .slice none 0 0, .string ⟨#[]⟩, .string ⟨#[]⟩] 39) = w1 at *;refine (HMK.out _ HMB.out).mono ?_;rintro e w2 ⟨v2, rfl, hv, hb⟩;have HV2 := hid hv;replace HM1 := hid ((hb.block _ (ab HM1.out)).trans HM1.out);replace HM2 := hid ((hb.block _ (ab HM2.out)).trans HM2.out);replace HMB := hid (HMB.out.trans (hb.mono HMB.out.size));clear hv hb
 go_wp2_with fail
 refine (HDE.out _ _ HV2.out).mono ?_;rintro e w3 ⟨v3, rfl, hv, hb⟩;have HV3 := hid hv;replace HM1 := hid ((hb.block _ (ab HM1.out)).trans HM1.out);replace HM2 := hid ((hb.block _ (ab HM2.out)).trans HM2.out);replace HMB := hid (HMB.out.trans (hb.mono HMB.out.size));obtain ⟨s3, b3, a3, n3, c3, rfl⟩ := ae hv;have p2 := aa HM1.out 2;have hl0 := ab HM1.out;clear hv hb HV2
 go_wp2_with fail
 have hal := (Below.refl w3.heap.size w3).alloc (Nat.le_refl _) (.cells #[.int .i64 s3, .bool b3, .slice a3 n3 c3] 83);have HP := hid (⟨(hal.block _ (ab HM1.out)).trans HM1.out, (hal.block _ (ab HM2.out)).trans HM2.out, heap_alloc_new _ _, HV3.out.far hal, ab HM2.out, HMB.out.trans (hal.mono HMB.out.size)⟩ : PD w (w3.alloc (.cells #[.int .i64 s3, .bool b3, .slice a3 n3 c3] 83)) w3.heap.size r ao n c1 t1 tm #[.int .i64 s3, .bool b3, .slice a3 n3 c3] ((ar p.den (cs.take 0) : Nat) : Int));clear hal HM1 HM2 HMB HV3 p2 hl0;generalize w3.alloc (.cells #[.int .i64 s3, .bool b3, .slice a3 n3 c3] 83) = w4 at *;generalize w3.heap.size = D at *
 go_loopg [30] n (fun gh v30 wr => ∃ (k : Nat) (C1 : Array Value), gh = n - k ∧ k ≤ n ∧ v30 = .int .i64 k ∧ PD w wr D r ao n c1 t1 tm C1 ((ar p.den (cs.take k) : Nat) : Int))
 case atStart => exact ⟨0, _, rfl, Nat.zero_le _, rfl, HP.out⟩
 case round =>
  obtain ⟨k, C1, rfl, hk, rfl, hp⟩ := hrel;have HP1 := hid hp;clear hp HP;have hk0 : (0 : Int) ≤ (k : Int) := by omega
  by_cases hlt : k < n
  · have had := HC.out.ad (by omega);subst had;have hlt' : k < cs.length := by rw [HN.out]; exact hlt
    have hlti : (k : Int) < (n : Int) := by omega
    have c0 := (HC.out.far HP1.out.bel).nm k hlt';have c1' := (HC.out.far HP1.out.bel).nu k hlt';have hmu := fun W hW => mustT (HG.out.ds _ (List.getElem_mem hlt')) (by omega) W hW
    have hden := fun W v (h : RV W v cs[k].2) => ratDen_any v cs[k].2 W h
    have fden : Fit ((cs[k].2.den : Nat) : Int) := fit_ten (k := d) (by rw [Int.natAbs_natCast]; exact (HG.out.ds _ (List.getElem_mem hlt')).2) (by omega);have hlc := fun W u v (hu : IV W u ((ar p.den (cs.take k) : Nat) : Int)) (hv : IV W v ((cs[k].2.den : Nat) : Int)) => lcmI hu hv (denL_pos _ _ (Nat.pos_of_ne_zero p.den_nz)) (fit_ten (k := d * 9) (by rw [Int.natAbs_natCast]; exact HFD.out k) (by omega)) fden
    have hsn : ar p.den (cs.take (k + 1)) = Nat.lcm (ar p.den (cs.take k)) cs[k].2.den := by rw [List.take_succ_eq_append_getElem hlt', denL_snoc]
    rw [← hsn] at hlc;have HMU := hid hmu;have HDN := hid hden;have HLC := hid hlc;clear hmu hden fden hlc hsn;generalize cs[k].2.den = dn at *;generalize (⟨cs[k].1.toArray⟩ : ByteArray) = tn at *;obtain ⟨tq, htq⟩ : ∃ tq : ByteArray, TX cs[k].2 = tq := ⟨_, rfl⟩
    rw [htq] at c1' HMU;obtain ⟨cq, hcq⟩ : ∃ cq : Rat, cs[k].2 = cq := ⟨_, rfl⟩
    rw [hcq] at HMU HDN;clear htq hcq;generalize ((ar p.den (cs.take k) : Nat) : Int) = zk at *;obtain ⟨zk1, hzk1⟩ : ∃ z : Int, ((ar p.den (cs.take (k + 1)) : Nat) : Int) = z := ⟨_, rfl⟩
    have HZ := hid hzk1;rw [hzk1] at HLC;clear hzk1;obtain ⟨s', b', ao', n', c', hC1⟩ := ae HP1.out.vd;injection hC1 with hC1;subst hC1
    go_wp2_with fail
    have hal : Below wr.heap.size wr (wr.alloc (.cells #[.string tn, .string tq] 79)) := (Below.refl _ _).alloc (Nat.le_refl _) _;have HP2 := hid (HP1.out.far hal);have HN2 := hid (heap_alloc_new wr (.cells #[.string tn, .string tq] 79));clear hal c0 c1';generalize wr.alloc (.cells #[.string tn, .string tq] 79) = wa at *;generalize wr.heap.size = N at *;refine aF [[], [], [1], [1, 2], [1, 2, 3], [0, 1, 2, 3, 4], [0, 1, 2, 3, 4, 5]] (fun W => PD w W D r (some ⟨g, off, none⟩) n c1 t1 tm #[.int .i64 s', .bool b', .slice ao' n' c'] zk ∧ W.heap[N]? = some (.cells #[.string tn, .string tq] 79 (0, 0))) (fun _ => True) ?_
    iterate 3
     apply aM
     · intro x; go_simp; done
     · intro x W R hW hF hR;have p0 := aa hW.1.hd 0;have p1 := aa hW.1.hd 1;have p2 := aa hW.1.hd 2;have q0 := aa hW.2 0;have q1 := aa hW.2 1;clear hF;unfold ag
       go_simp
       simp only [ac];exact hR _ (Below.refl _ _)
     simp only [Act.put, List.setIfInBounds_toArray, List.set_cons_zero, List.set_cons_succ]
    refine ba (fun v W => RV W v (cq)) (fun _ _ _ h hb => h.far hb) ?_ ?_ ?_
    · intro x; go_simp; done
    · intro x W R hW hF hR;clear hF;unfold ag
      go_simp
      simp only [ac];refine (HMU.out W (HE.out.far hW.1.bel)).mono ?_;rintro e w' ⟨v, rfl, hv, hb⟩;exact ⟨v, rfl, hR _ _ hv hb⟩
    simp only [Act.put, List.setIfInBounds_toArray, List.set_cons_zero, List.set_cons_succ, List.length_cons, List.length_nil, Nat.zero_add, Nat.reduceAdd];refine ba (fun v W => IV W v ((dn : Nat))) (fun _ _ _ h hb => h.far hb) ?_ ?_ ?_
    · intro x; go_simp; done
    · intro x W R hW hF hR;have hu := hF.1.2 rfl rfl rfl;simp only [AK.fact] at hu;clear hF;unfold ag
      go_simp
      simp only [ac];refine (HDN.out W _ hu).mono ?_;rintro e w' ⟨v, rfl, hv, hb⟩;exact ⟨v, rfl, hR _ _ hv hb⟩
    simp only [Act.put, List.setIfInBounds_toArray, List.set_cons_zero, List.set_cons_succ, List.length_cons, List.length_nil, Nat.zero_add, Nat.reduceAdd];refine ba (fun v W => IV W v (zk1)) (fun _ _ _ h hb => h.far hb) ?_ ?_ ?_
    · intro x; go_simp; done
    · intro x W R hW hF hR;have hu := hF.1.2 rfl rfl rfl;simp only [AK.fact] at hu;clear hF;unfold ag
      go_simp
      simp only [ac];refine (HLC.out W _ _ hW.1.vd hu).mono ?_;rintro e w' ⟨v, rfl, hv, hb⟩;exact ⟨v, rfl, hR _ _ hv hb⟩
    simp only [Act.put, List.setIfInBounds_toArray, List.set_cons_zero, List.set_cons_succ, List.length_cons, List.length_nil, Nat.zero_add, Nat.reduceAdd];refine a_wrt (fun _ W => ∃ C1, PD w W D r (some ⟨g, off, none⟩) n c1 t1 tm C1 zk1) (fun _ _ _ h hb => let ⟨C1, h⟩ := h; ⟨C1, h.far hb⟩) (fun _ _ _ _ h => h) ?_ ?_ ?_
    · intro x; go_simp; done
    · intro x W R hW hF hD hR;have hu := hF.1.2 rfl rfl rfl;simp only [AK.fact] at hu;obtain ⟨s2, b2, ao2, n2, c2, hx⟩ := ae hu;rw [hx] at hu;simp only [hx];have e0 := aa hW.1.hd 0;have e1 := aa hW.1.hd 1;have e2 := aa hW.1.hd 2;have fr := fun i => ah hW.1.hd i
      clear hF hD;unfold ag
      go_simp
      simp only [ac];exact hR _ _ ⟨_, hW.1.setD hu⟩ trivial (by simp [World.setCell])
    simp only [Act.put];refine a_nil (by kernel_rfl) (by kernel_rfl) (by kernel_rfl) (fun _ _ h hb => ⟨h.1.far hb, (hb.block _ (ab h.2)).trans h.2⟩) (fun _ _ _ _ => trivial) (fun _ _ => trivial) (⟨HP2.out.far (Below.refl _ _).drew, HN2.out⟩) ?_;intro x W hE hW hF hD;clear hD;obtain ⟨C1, hp⟩ := hF.1.2 rfl;rw [← HZ.out] at hp;have HP3 := hid hp;clear hF hW hp
    go_wp2_with fail
    go_roundg (n - (k + 1))
    case rel => exact ⟨k + 1, C1, rfl, by omega, by go_num, HP3.out⟩
    case measure => omega
  · obtain rfl : k = n := by omega
    have hlti : ¬ ((k : Int) < (k : Int)) := by omega
    have hall : cs.take k = cs := by rw [← HN.out]; exact List.take_length
    rw [hall] at HP1;have hF := HFD.out k;rw [hall] at hF;have HF := hid hF;have hfF : Fit ((ar p.den cs : Nat) : Int) := fit_ten (k := d * 9) (by rw [Int.natAbs_natCast]; exact hF) (by omega);have hfm : Fit m := fit_ten (k := d) (by have := HMD.out.1; rw [Rat.num_intCast] at this; exact Nat.le_of_lt this) (by omega);obtain ⟨zd, hzd⟩ : ∃ zd : Int, ((ar p.den cs : Nat) : Int) = zd := ⟨_, rfl⟩
    have HZD := hid hzd;rw [hzd] at HP1 hfF;obtain ⟨zm, hzm⟩ : ∃ zm : Int, m * zd = zm := ⟨_, rfl⟩
    have HZM := hid hzm
    have hmk2 : ∀ W, Below w.heap.size w W → Calls Tryz.prog 56 #[.string tm] W (GetsQ (m : Rat) W) := fun W hW => by
     rw [← HTM.out]; exact mustT HMD.out (by omega) W (HE.out.far hW)
    have hnm := fun W v (h : RV W v (m : Rat)) => ratNum_any v _ W h
    rw [Rat.num_intCast] at hnm;have hmu := fun W u v (hu : IV W u m) (hv : IV W v zd) => mul_any u v _ _ W hu hv hfm hfF
    rw [hzm] at hmu;have HMK2 := hid hmk2;have HNM := hid hnm;have HMU := hid hmu;obtain ⟨s', b', ao', n', c', hC1⟩ := ae HP1.out.vd;injection hC1 with hC1;subst hC1;have hk0' : k = cs.length := HN.out.symm;clear hlti hlt hall hk hk0 hF hfF hfm hzd hzm hmk2 hnm hmu
    go_wp2_with fail
    refine aF [[], [0], [0, 1], [0, 1, 2], [], [0, 1, 2, 3, 4], [], [0, 1, 2, 3, 4, 5, 6]] (fun W => PD w W D r ao k c1 t1 tm #[.int .i64 s', .bool b', .slice ao' n' c'] zd) (fun _ => True) ?_
    iterate 2
     apply aM
     · intro x; go_simp; done
     · intro x W R hW hF hR;have p4 := aa hW.a 4;have q0 := aa hW.hd 0;have q1 := aa hW.hd 1;have q2 := aa hW.hd 2;clear hF;unfold ag
       go_simp
       simp only [ac];exact hR _ (Below.refl _ _)
     simp only [Act.put, List.setIfInBounds_toArray, List.set_cons_zero, List.set_cons_succ]
    refine ba (fun v W => RV W v (m : Rat)) (fun _ _ _ h hb => h.far hb) ?_ ?_ ?_
    · intro x; go_simp; done
    · intro x W R hW hF hR;clear hF;unfold ag
      go_simp
      simp only [ac];refine (HMK2.out W hW.bel).mono ?_;rintro e w' ⟨v, rfl, hv, hb⟩;exact ⟨v, rfl, hR _ _ hv hb⟩
    simp only [Act.put, List.setIfInBounds_toArray, List.set_cons_zero, List.set_cons_succ, List.length_cons, List.length_nil, Nat.zero_add, Nat.reduceAdd];refine ba (fun v W => IV W v (m)) (fun _ _ _ h hb => h.far hb) ?_ ?_ ?_
    · intro x; go_simp; done
    · intro x W R hW hF hR;have hu := hF.1.2 rfl rfl rfl;simp only [AK.fact] at hu;clear hF;unfold ag
      go_simp
      simp only [ac];refine (HNM.out W _ hu).mono ?_;rintro e w' ⟨v, rfl, hv, hb⟩;exact ⟨v, rfl, hR _ _ hv hb⟩
    simp only [Act.put, List.setIfInBounds_toArray, List.set_cons_zero, List.set_cons_succ, List.length_cons, List.length_nil, Nat.zero_add, Nat.reduceAdd];apply aM
    · intro x; go_simp; done
    · intro x W R hW hF hR;have p4 := aa hW.a 4;have q0 := aa hW.hd 0;have q1 := aa hW.hd 1;have q2 := aa hW.hd 2;clear hF;unfold ag
      go_simp
      simp only [ac];exact hR _ (Below.refl _ _)
    simp only [Act.put, List.setIfInBounds_toArray, List.set_cons_zero, List.set_cons_succ];refine ba (fun v W => IV W v (zm)) (fun _ _ _ h hb => h.far hb) ?_ ?_ ?_
    · intro x; go_simp; done
    · intro x W R hW hF hR;have hu := hF.2.1.2 rfl rfl rfl;simp only [AK.fact] at hu;clear hF;unfold ag
      go_simp
      simp only [ac];refine (HMU.out W _ _ hu hW.vd).mono ?_;rintro e w' ⟨v, rfl, hv, hb⟩;exact ⟨v, rfl, hR _ _ hv hb⟩
    simp only [Act.put, List.setIfInBounds_toArray, List.set_cons_zero, List.set_cons_succ, List.length_cons, List.length_nil, Nat.zero_add, Nat.reduceAdd];refine a_new (fun B W => D < B ∧ W.heap[B]? = some (.cells #[.int .i64 0, .bool false, .slice none 0 0] 83 (0, 0))) (fun _ _ _ h hb => ⟨h.1, (hb.block _ (ab h.2)).trans h.2⟩) ?_ ?_ ?_
    · intro x; go_simp; done
    · intro x W R hW hF hR;clear hF;unfold ag
      go_simp
      simp only [ac];exact hR _ ⟨ab hW.hd, heap_alloc_new _ _⟩ ((Below.refl _ _).alloc (Nat.le_refl _) _) (by simp)
    simp only [Act.put, List.setIfInBounds_toArray, List.set_cons_zero, List.set_cons_succ, List.length_cons, List.length_nil, Nat.zero_add, Nat.reduceAdd];refine a_wrt (fun x W => ∃ M C2, x 6 = .pointer (some ⟨M, 0, none⟩) ∧ PM w W D M r ao k c1 t1 tm #[.int .i64 s', .bool b', .slice ao' n' c'] C2 zd zm) (fun _ _ _ h hb => let ⟨M, C2, h1, h2⟩ := h; ⟨M, C2, h1, h2.far hb⟩) (fun x x' w hx hT => let ⟨M, C2, h1, h⟩ := hT; ⟨M, C2, (hx 6 (.inr (List.contains_iff_mem.1 rfl))).symm.trans h1, h⟩) ?_ ?_ ?_
    · intro x; go_simp; done
    · intro x W R hW hF hD hR;have hu := hF.2.1.2 rfl rfl rfl;have hb := hF.1.2 rfl rfl rfl;simp only [AK.fact] at hu hb;obtain ⟨M, hx6, hl, hM⟩ := hb;obtain ⟨s, b, ao2, n2, c2, hx5⟩ := ae hu;rw [hx5] at hu;simp only [hx6, hx5];have e0 := aa hM 0;have e1 := aa hM 1;have e2 := aa hM 2;have fr := fun i => ah hM i
      clear hF hD;unfold ag
      go_simp
      simp only [ac];have ho : ∀ g, g ≠ M → (((W.setCell ⟨M, 0, none⟩ (.int .i64 s)).setCell ⟨M, 1, none⟩ (.bool b)).setCell ⟨M, 2, none⟩ (.slice ao2 n2 c2)).heap[g]? = W.heap[g]? := fun g hg => aj _ _ _ hg
      have hl1 := hW.l1;have hbl := ((hW.bel.setCell (show w.heap.size ≤ M by omega) (p := ⟨M, 0, none⟩) (.int .i64 s)).setCell (p := ⟨M, 1, none⟩) (show w.heap.size ≤ M by omega) (.bool b)).setCell (p := ⟨M, 2, none⟩) (show w.heap.size ≤ M by omega) (.slice ao2 n2 c2);exact hR _ _ ⟨M, _, (aJ (i := 7) (j := 6) _ _ (by decide)).trans hx6, ⟨(ho _ (by omega)).trans hW.a, (ho _ (by omega)).trans hW.r, (ho _ (by omega)).trans hW.hd, hW.vd.but hM (by decide) ho, hl1, hbl⟩, aU hM, hu.but hM (by decide) ho, hl⟩ trivial (by simp [World.setCell])
    simp only [Act.put];refine a_nil (by kernel_rfl) (by kernel_rfl) (by kernel_rfl) (fun _ _ h hb => h.far hb) (fun _ _ _ _ => trivial) (fun _ _ => trivial) (HP1.out.far (Below.refl _ _).drew) ?_;intro x W hE hW hF hD;clear hD;obtain ⟨M, C2, hx6, hp⟩ := hF.1.2 rfl;simp only [hx6];have HPM := hid hp;obtain ⟨s2, b2, ao2, n2, c2, hC2⟩ := ae hp.vm;injection hC2 with hC2;subst hC2;have m0 := aa hp.hm 0;have m1 := aa hp.hm 1;have m2 := aa hp.hm 2;have p2 := aa hp.pd.a 2;have hla := ab hp.pd.a;clear hF hW hp hx6 HP1
    go_wp2_with fail
    have hal := (Below.refl W.heap.size W).alloc (Nat.le_refl _) (.cells #[.int .i64 s2, .bool b2, .slice ao2 n2 c2] 83);have hFp : 0 < ar p.den cs := denL_pos _ _ (Nat.pos_of_ne_zero p.den_nz)
    have hzp : 0 < zm := by
     rw [← HZM.out, ← HZD.out];exact Int.mul_pos (by omega) (by omega)
    have hPG0 : PG w (W.alloc (.cells #[.int .i64 s2, .bool b2, .slice ao2 n2 c2] 83)) D M W.heap.size r ao k c1 t1 tm #[.int .i64 s', .bool b', .slice ao' n' c'] #[.int .i64 s2, .bool b2, .slice ao2 n2 c2] #[.int .i64 s2, .bool b2, .slice ao2 n2 c2] zd zm ((gcdL (ar p.den cs) zm zm.natAbs (cs.take 0) : Nat) : Int) := ⟨HPM.out.far hal, heap_alloc_new _ _, by
     have := HPM.out.vm.far hal
     rwa [show (((gcdL (ar p.den cs) zm zm.natAbs (cs.take 0) : Nat) : Int)) = zm by show ((zm.natAbs : Nat) : Int) = zm; omega], ab HPM.out.hm⟩
    have HP2 := hid hPG0;have HZP := hid hzp
    have hFd : DS (d * 9 + 1) ((zd : Int) : Rat) := DS.int (by
     rw [← HZD.out, Int.natAbs_natCast]
     exact Nat.lt_of_le_of_lt HF.out (Nat.pow_lt_pow_right (by omega) (by omega)))
    have hfz : Fit zm := fit_ten (k := d + (d * 9 + 1)) (by
     have := (HMD.out.mul hFd).1;rw [← Rat.intCast_mul, HZM.out, Rat.num_intCast] at this
     exact Nat.le_of_lt this) (by omega)
    have HFZ := hid hfz;have HFDS := hid hFd;clear hal hFp hzp hPG0 hFd hfz m0 m1 m2 hla HPM;generalize W.alloc (.cells #[.int .i64 s2, .bool b2, .slice ao2 n2 c2] 83) = w5 at *;generalize W.heap.size = G at *
    go_loopg [53] k (fun gh v53 wr => ∃ (i : Nat) (C3 : Array Value), gh = k - i ∧ i ≤ k ∧ v53 = .int .i64 i ∧ PG w wr D M G r ao k c1 t1 tm #[.int .i64 s', .bool b', .slice ao' n' c'] #[.int .i64 s2, .bool b2, .slice ao2 n2 c2] C3 zd zm ((gcdL (ar p.den cs) zm zm.natAbs (cs.take i) : Nat) : Int))
    case atStart => exact ⟨0, _, rfl, Nat.zero_le _, rfl, HP2.out⟩
    case round =>
     obtain ⟨i, C3, rfl, hi, rfl, hp⟩ := hrel;have HP3 := hid hp;clear hp HP2 p2;have hi0 : (0 : Int) ≤ (i : Int) := by omega
     by_cases hlt : i < k
     · have had := HC.out.ad (by omega);subst had;have hlt' : i < cs.length := by rw [HN.out]; exact hlt
       have hlti : (i : Int) < (k : Int) := by omega
       have c0 := (HC.out.far HP3.out.pm.pd.bel).nm i hlt';have c1' := (HC.out.far HP3.out.pm.pd.bel).nu i hlt';have hq := HG.out.ds _ (List.getElem_mem hlt');have hzn : zm ≠ 0 := by have := HZP.out; omega
       have hrs : ∀ W C3 zg, PG w W D M G r (some ⟨g, off, none⟩) k c1 t1 tm #[.int .i64 s', .bool b', .slice ao' n' c'] #[.int .i64 s2, .bool b2, .slice ao2 n2 c2] C3 zd zm zg → Calls Tryz.prog 119 #[.string (TX cs[i].2), .pointer (some ⟨D, 0, none⟩), .pointer (some ⟨M, 0, none⟩)] W (aY (rsD (ar p.den cs) zm cs[i].2) W) := fun W C3 zg h => by
        have := restI h.pm.pd.hd h.pm.pd.vd h.pm.hm h.pm.vm hq HFDS.out hzn HFZ.out (by omega) (by omega) (HE.out.far h.pm.pd.bel);rw [← HZD.out, Rat.intCast_natCast] at this;exact this
       have fk : Fit ((gcdL (ar p.den cs) zm zm.natAbs (cs.take i) : Nat) : Int) := gcdL_fit HZP.out HFZ.out _ _ (by have h := HZP.out; rw [show ((zm.natAbs : Nat) : Int) = zm by omega]; exact HFZ.out);have fr0 : Fit (rsD (ar p.den cs) zm cs[i].2) := rs_fit HZP.out HFZ.out _;have hsn : gcdL (ar p.den cs) zm zm.natAbs (cs.take (i + 1)) = Nat.gcd (gcdL (ar p.den cs) zm zm.natAbs (cs.take i)) (rsD (ar p.den cs) zm cs[i].2).natAbs := by rw [List.take_succ_eq_append_getElem hlt', gcdL_snoc]
       have hgc := fun W u v (hu : IV W u ((gcdL (ar p.den cs) zm zm.natAbs (cs.take i) : Nat) : Int)) (hv : IV W v (rsD (ar p.den cs) zm cs[i].2)) => gcd_any u v _ _ W hu hv fk fr0
       have hge : Int.gcd ((gcdL (ar p.den cs) zm zm.natAbs (cs.take i) : Nat) : Int) (rsD (ar p.den cs) zm cs[i].2) = gcdL (ar p.den cs) zm zm.natAbs (cs.take (i + 1)) := by
        rw [hsn]; unfold Int.gcd; rw [Int.natAbs_natCast]
       rw [hge] at hgc;have HRS := hid hrs;have HGC := hid hgc;clear hrs hgc hge hsn fk fr0 hq hzn;generalize rsD (ar p.den cs) zm cs[i].2 = zr at *;generalize (⟨cs[i].1.toArray⟩ : ByteArray) = tn at *;obtain ⟨tq, htq⟩ : ∃ tq : ByteArray, TX cs[i].2 = tq := ⟨_, rfl⟩
       rw [htq] at c1' HRS;clear htq;generalize ((gcdL (ar p.den cs) zm zm.natAbs (cs.take i) : Nat) : Int) = zk at *;obtain ⟨zk1, hzk1⟩ : ∃ z : Int, ((gcdL (ar p.den cs) zm zm.natAbs (cs.take (i + 1)) : Nat) : Int) = z := ⟨_, rfl⟩
       have HZ := hid hzk1;rw [hzk1] at HGC;clear hzk1;obtain ⟨s3, b3, ao3, n3, c3, hC3⟩ := ae HP3.out.vg;injection hC3 with hC3;subst hC3
       go_wp2_with fail
       have hal : Below wr.heap.size wr (wr.alloc (.cells #[.string tn, .string tq] 79)) := (Below.refl _ _).alloc (Nat.le_refl _) _;have HP4 := hid (HP3.out.far hal);have HN2 := hid (heap_alloc_new wr (.cells #[.string tn, .string tq] 79));clear hal c0 c1';generalize wr.alloc (.cells #[.string tn, .string tq] 79) = wa at *;generalize wr.heap.size = N at *;refine aF [[], [], [], [2], [1, 2, 3], [0, 1, 2, 3, 4], [0, 1, 2, 3, 4, 5]] (fun W => PG w W D M G r (some ⟨g, off, none⟩) k c1 t1 tm #[.int .i64 s', .bool b', .slice ao' n' c'] #[.int .i64 s2, .bool b2, .slice ao2 n2 c2] #[.int .i64 s3, .bool b3, .slice ao3 n3 c3] zd zm zk ∧ W.heap[N]? = some (.cells #[.string tn, .string tq] 79 (0, 0))) (fun _ => True) ?_
       iterate 4
        apply aM
        · intro x; go_simp; done
        · intro x W R hW hF hR;have p0 := aa hW.1.hg 0;have p1 := aa hW.1.hg 1;have p2 := aa hW.1.hg 2;have q0 := aa hW.2 0;have q1 := aa hW.2 1;clear hF;unfold ag
          go_simp
          simp only [ac];exact hR _ (Below.refl _ _)
        simp only [Act.put, List.setIfInBounds_toArray, List.set_cons_zero, List.set_cons_succ]
       refine ba (fun v W => IV W v (zr)) (fun _ _ _ h hb => h.far hb) ?_ ?_ ?_
       · intro x; go_simp; done
       · intro x W R hW hF hR;clear hF;unfold ag
         go_simp
         simp only [ac];refine (HRS.out W _ _ hW.1).mono ?_;rintro e w' ⟨v, rfl, hv, hb⟩;exact ⟨v, rfl, hR _ _ hv hb⟩
       simp only [Act.put, List.setIfInBounds_toArray, List.set_cons_zero, List.set_cons_succ, List.length_cons, List.length_nil, Nat.zero_add, Nat.reduceAdd];refine ba (fun v W => IV W v (zk1)) (fun _ _ _ h hb => h.far hb) ?_ ?_ ?_
       · intro x; go_simp; done
       · intro x W R hW hF hR;have hu := hF.1.2 rfl rfl rfl;simp only [AK.fact] at hu;clear hF;unfold ag
         go_simp
         simp only [ac];refine (HGC.out W _ _ hW.1.vg hu).mono ?_;rintro e w' ⟨v, rfl, hv, hb⟩;exact ⟨v, rfl, hR _ _ hv hb⟩
       simp only [Act.put, List.setIfInBounds_toArray, List.set_cons_zero, List.set_cons_succ, List.length_cons, List.length_nil, Nat.zero_add, Nat.reduceAdd];refine a_wrt (fun _ W => ∃ C3, PG w W D M G r (some ⟨g, off, none⟩) k c1 t1 tm #[.int .i64 s', .bool b', .slice ao' n' c'] #[.int .i64 s2, .bool b2, .slice ao2 n2 c2] C3 zd zm zk1) (fun _ _ _ h hb => let ⟨C3, h⟩ := h; ⟨C3, h.far hb⟩) (fun _ _ _ _ h => h) ?_ ?_ ?_
       · intro x; go_simp; done
       · intro x W R hW hF hD hR;have hu := hF.1.2 rfl rfl rfl;simp only [AK.fact] at hu;obtain ⟨s4, b4, ao4, n4, c4, hx⟩ := ae hu;rw [hx] at hu;simp only [hx];have e0 := aa hW.1.hg 0;have e1 := aa hW.1.hg 1;have e2 := aa hW.1.hg 2;have fr := fun i => ah hW.1.hg i
         clear hF hD;unfold ag
         go_simp
         simp only [ac];exact hR _ _ ⟨_, hW.1.setG hu⟩ trivial (by simp [World.setCell])
       simp only [Act.put];refine a_nil (by kernel_rfl) (by kernel_rfl) (by kernel_rfl) (fun _ _ h hb => ⟨h.1.far hb, (hb.block _ (ab h.2)).trans h.2⟩) (fun _ _ _ _ => trivial) (fun _ _ => trivial) (⟨HP4.out.far (Below.refl _ _).drew, HN2.out⟩) ?_;intro x W hE hW hF hD;clear hD;obtain ⟨C3, hp⟩ := hF.1.2 rfl;rw [← HZ.out] at hp;have HP5 := hid hp;clear hF hW hp
       go_wp2_with fail
       go_roundg (k - (i + 1))
       case rel => exact ⟨i + 1, C3, rfl, by omega, by go_num, HP5.out⟩
       case measure => omega
     · obtain rfl : i = k := by omega
       have hlti : ¬ ((i : Int) < (i : Int)) := by omega
       have hall : cs.take i = cs := by rw [← HN.out]; exact List.take_length
       rw [hall] at HP3;obtain ⟨zg, hzg⟩ : ∃ zg : Int, ((gcdL (ar p.den cs) zm zm.natAbs cs : Nat) : Int) = zg := ⟨_, rfl⟩
       have hgp : 0 < zg := by
        rw [← hzg];have := gcdL_pos (F := ar p.den cs) (zM := zm) cs zm.natAbs (by have := HZP.out; omega)
        omega
       have hgf : Fit zg := by
        rw [← hzg];exact gcdL_fit HZP.out HFZ.out _ _ (by have h := HZP.out; rw [show ((zm.natAbs : Nat) : Int) = zm by omega]; exact HFZ.out)
       have HZG := hid hzg;rw [hzg] at HP3;have hzn : zm ≠ 0 := by have := HZP.out; omega
       have hrs : ∀ W C3 zg, PG w W D M G r ao i c1 t1 tm #[.int .i64 s', .bool b', .slice ao' n' c'] #[.int .i64 s2, .bool b2, .slice ao2 n2 c2] C3 zd zm zg → Calls Tryz.prog 119 #[.string t1, .pointer (some ⟨D, 0, none⟩), .pointer (some ⟨M, 0, none⟩)] W (aY (rsD (ar p.den cs) zm p) W) := fun W C3 zg h => by
        have := restI h.pm.pd.hd h.pm.pd.vd h.pm.hm h.pm.vm HDP.out HFDS.out hzn HFZ.out (by omega) (by omega) (HE.out.far h.pm.pd.bel);rw [← HZD.out, Rat.intCast_natCast, HT1.out] at this;exact this
       have fr0 : Fit (rsD (ar p.den cs) zm p) := rs_fit HZP.out HFZ.out _;obtain ⟨zr, hzr⟩ : ∃ zr : Int, rsD (ar p.den cs) zm p = zr := ⟨_, rfl⟩
       have HZR := hid hzr;rw [hzr] at hrs fr0;have hqr := fun W u v (hu : IV W u zr) (hv : IV W v zg) => quoRem_any u v _ _ W hu hv fr0 hgf (by omega)
       have hqm := fun W u v (hu : IV W u zm) (hv : IV W v zg) => quoRem_any u v _ _ W hu hv HFZ.out hgf (by omega)
       obtain ⟨zb, hzb⟩ : ∃ zb : Int, zr / zg = zb := ⟨_, rfl⟩
       obtain ⟨ze, hze⟩ : ∃ ze : Int, zr % zg = ze := ⟨_, rfl⟩
       unfold QRPost at hqr hqm;rw [hzb, hze] at hqr;have HZB := hid hzb;have HZE := hid hze;have HRS := hid hrs;have HQR := hid hqr;have HQM := hid hqm;have HGP := hid hgp;have HGF := hid hgf;obtain ⟨s3, b3, ao3, n3, c3, hC3⟩ := ae HP3.out.vg;injection hC3 with hC3;subst hC3;clear hlti hlt hall hi hi0 hzg hgp hgf hzn hrs fr0 hzr hqr hqm hzb hze
       go_wp2_with fail
       refine aF [[], [], [1], [1, 2], [0, 1, 2, 3], [], [0, 1, 2, 3, 4, 5], [0, 1, 2, 3, 4, 5, 6], [0, 1, 2, 3, 4, 5, 6, 7], [0, 1, 2, 3, 4, 5, 6, 7], [], [], [0, 1, 2, 3, 4, 5, 6, 7, 8, 10, 11], [0, 1, 2, 3, 4, 5, 6, 7, 8, 9, 10, 11, 12]] (fun W => PG w W D M G r ao i c1 t1 tm #[.int .i64 s', .bool b', .slice ao' n' c'] #[.int .i64 s2, .bool b2, .slice ao2 n2 c2] #[.int .i64 s3, .bool b3, .slice ao3 n3 c3] zd zm zg) (fun _ => True) ?_
       iterate 4
        apply aM
        · intro x; go_simp; done
        · intro x W R hW hF hR;have p3 := aa hW.pm.pd.a 3;have q0 := aa hW.hg 0;have q1 := aa hW.hg 1;have q2 := aa hW.hg 2;clear hF;unfold ag
          go_simp
          simp only [ac];exact hR _ (Below.refl _ _)
        simp only [Act.put, List.setIfInBounds_toArray, List.set_cons_zero, List.set_cons_succ]
       refine ba (fun v W => IV W v (zr)) (fun _ _ _ h hb => h.far hb) ?_ ?_ ?_
       · intro x; go_simp; done
       · intro x W R hW hF hR;clear hF;unfold ag
         go_simp
         simp only [ac];refine (HRS.out W _ _ hW).mono ?_;rintro e w' ⟨v, rfl, hv, hb⟩;exact ⟨v, rfl, hR _ _ hv hb⟩
       simp only [Act.put, List.setIfInBounds_toArray, List.set_cons_zero, List.set_cons_succ, List.length_cons, List.length_nil, Nat.zero_add, Nat.reduceAdd];apply aM
       · intro x; go_simp; done
       · intro x W R hW hF hR;have p3 := aa hW.pm.pd.a 3;have q0 := aa hW.hg 0;have q1 := aa hW.hg 1;have q2 := aa hW.hg 2;clear hF;unfold ag
         go_simp
         simp only [ac];exact hR _ (Below.refl _ _)
       simp only [Act.put, List.setIfInBounds_toArray, List.set_cons_zero, List.set_cons_succ];refine a_opqF (PairShape) (fun v W => ∃ v1 v2, v = .tuple #[v1, v2] ∧ IV W v1 zb ∧ IV W v2 ze) (fun _ _ _ h hb => let ⟨v1, v2, h1, h2, h3⟩ := h; ⟨v1, v2, h1, h2.far hb, h3.far hb⟩) ?_ ?_ ?_
       · intro x; go_simp; done
       · intro x W R hW hF hR;have hu := hF.2.1.2 rfl rfl rfl;simp only [AK.fact] at hu;clear hF;unfold ag
         go_simp
         simp only [ac];refine (HQR.out W _ _ hu hW.vg).mono ?_;rintro e w' ⟨v1, v2, rfl, hv1, hv2, hb⟩;exact ⟨_, rfl, hR _ _ ⟨v1, v2, rfl, hv1.shape, hv2.shape⟩ ⟨v1, v2, rfl, hv1, hv2⟩ hb⟩
       simp only [Act.put, List.setIfInBounds_toArray, List.set_cons_zero, List.set_cons_succ, List.length_cons, List.length_nil, Nat.zero_add, Nat.reduceAdd];refine a_opqF (PairShape) (fun v W => ∃ v1 v2, v = .tuple #[v1, v2] ∧ IV W v1 zb ∧ IV W v2 ze) (fun _ _ _ h hb => let ⟨v1, v2, h1, h2, h3⟩ := h; ⟨v1, v2, h1, h2.far hb, h3.far hb⟩) ?_ ?_ ?_
       · intro x; go_simp; done
       · intro x W R hW hF hR;have hu := hF.1.2 rfl rfl rfl;have hs := hF.1.1 rfl;simp only [AK.fact] at hu;simp only [AK.free] at hs;clear hF;unfold ag
         go_simp
         simp only [ac];exact hR _ _ hs hu (Below.refl _ _)
       simp only [Act.put, List.setIfInBounds_toArray, List.set_cons_zero, List.set_cons_succ, List.length_cons, List.length_nil, Nat.zero_add, Nat.reduceAdd];refine ba (fun v W => IV W v (zb)) (fun _ _ _ h hb => h.far hb) ?_ ?_ ?_
       · intro x; go_simp; done
       · intro x W R hW hF hR;have hu := hF.1.2 rfl rfl rfl;simp only [AK.fact] at hu;obtain ⟨v1, v2, hx, hv1, hv2⟩ := hu;simp only [hx];clear hF;unfold ag
         go_simp
         simp only [ac];exact hR _ _ hv1 (Below.refl _ _)
       simp only [Act.put, List.setIfInBounds_toArray, List.set_cons_zero, List.set_cons_succ, List.length_cons, List.length_nil, Nat.zero_add, Nat.reduceAdd];refine a_freX (fun x => ∃ v1, x 7 = .tuple #[v1, x 9]) (fun x x' hx h => by rw [← hx 7 (.inr (List.contains_iff_mem.1 rfl)), ← hx 9 (.inl rfl)]; exact h) ?_ ?_ ?_
       · intro x; go_simp; done
       · intro x W R hW hF hR;have hs := hF.2.1.1 rfl;simp only [AK.free] at hs;obtain ⟨v1, v2, hx, hs1, hs2⟩ := hs;simp only [hx];clear hF;unfold ag
         go_simp
         simp only [ac];refine hR _ _ ⟨v1, ?_⟩ (Below.refl _ _);show updX x 9 v2 7 = .tuple #[v1, updX x 9 v2 9];rw [bk, aJ (i := 9) (j := 7) _ _ (by decide)];exact hx
       simp only [Act.put, List.setIfInBounds_toArray, List.set_cons_zero, List.set_cons_succ, List.length_cons, List.length_nil, Nat.zero_add, Nat.reduceAdd];refine a_new (fun B W => G < B ∧ W.heap[B]? = some (.cells #[.int .i64 0, .bool false, .slice none 0 0] 83 (0, 0))) (fun _ _ _ h hb => ⟨h.1, (hb.block _ (ab h.2)).trans h.2⟩) ?_ ?_ ?_
       · intro x; go_simp; done
       · intro x W R hW hF hR;clear hF;unfold ag
         go_simp
         simp only [ac];exact hR _ ⟨ab hW.hg, heap_alloc_new _ _⟩ ((Below.refl _ _).alloc (Nat.le_refl _) _) (by simp)
       simp only [Act.put, List.setIfInBounds_toArray, List.set_cons_zero, List.set_cons_succ, List.length_cons, List.length_nil, Nat.zero_add, Nat.reduceAdd];refine a_new (fun B W => G < B ∧ W.heap[B]? = some (.cells #[.int .i64 0, .bool false, .slice none 0 0] 83 (0, 0))) (fun _ _ _ h hb => ⟨h.1, (hb.block _ (ab h.2)).trans h.2⟩) ?_ ?_ ?_
       · intro x; go_simp; done
       · intro x W R hW hF hR;clear hF;unfold ag
         go_simp
         simp only [ac];exact hR _ ⟨ab hW.hg, heap_alloc_new _ _⟩ ((Below.refl _ _).alloc (Nat.le_refl _) _) (by simp)
       simp only [Act.put, List.setIfInBounds_toArray, List.set_cons_zero, List.set_cons_succ, List.length_cons, List.length_nil, Nat.zero_add, Nat.reduceAdd];refine a_wrt (fun x W => ∃ B8 B9 C8 v1 v2, x 7 = .tuple #[v1, v2] ∧ IV W v2 ze ∧ x 10 = .pointer (some ⟨B8, 0, none⟩) ∧ x 11 = .pointer (some ⟨B9, 0, none⟩) ∧ B8 ≠ B9 ∧ G < B8 ∧ G < B9 ∧ W.heap[B8]? = some (.cells C8 83 (0, 0)) ∧ IV W (.agg C8) zb ∧ W.heap[B9]? = some (.cells #[.int .i64 0, .bool false, .slice none 0 0] 83 (0, 0)) ∧ PG w W D M G r ao i c1 t1 tm #[.int .i64 s', .bool b', .slice ao' n' c'] #[.int .i64 s2, .bool b2, .slice ao2 n2 c2] #[.int .i64 s3, .bool b3, .slice ao3 n3 c3] zd zm zg) (fun _ _ _ h hb => let ⟨B8, B9, C8, v1, v2, g1, g2, h1, h2, h3, h4, h5, h6, h7, h8, h9⟩ := h; ⟨B8, B9, C8, v1, v2, g1, g2.far hb, h1, h2, h3, h4, h5, (hb.block _ (ab h6)).trans h6, h7.far hb, (hb.block _ (ab h8)).trans h8, h9.far hb⟩) (fun x x' w hx hT => let ⟨B8, B9, C8, v1, v2, g1, g2, h1, h2, h⟩ := hT; ⟨B8, B9, C8, v1, v2, (hx 7 (.inr (List.contains_iff_mem.1 rfl))).symm.trans g1, g2, (hx 10 (.inr (List.contains_iff_mem.1 rfl))).symm.trans h1, (hx 11 (.inr (List.contains_iff_mem.1 rfl))).symm.trans h2, h⟩) ?_ ?_ ?_
       · intro x; go_simp; done
       · intro x W R hW hF hD hR;have hu := hF.2.2.2.1.2 rfl rfl rfl;have hp := hF.2.2.2.2.1.2 rfl rfl rfl;have h8 := hF.2.1.2 rfl rfl rfl;have h9 := hF.1.2 rfl rfl rfl;have hd := hD 10 11 (List.contains_iff_mem.1 rfl) (List.contains_iff_mem.1 rfl) (by omega) rfl rfl;simp only [AK.fact] at hu hp h8 h9;obtain ⟨v1, v2, hxp, -, hvp⟩ := hp;obtain ⟨B8, hx8, hl8, hB8⟩ := h8;obtain ⟨B9, hx9, hl9, hB9⟩ := h9;have hne : B8 ≠ B9 := fun e => hd (by rw [hx8, hx9, e])
         obtain ⟨s, b, ao5, n5, c5, hx6⟩ := ae hu;rw [hx6] at hu;simp only [hx8, hx6];have e0 := aa hB8 0;have e1 := aa hB8 1;have e2 := aa hB8 2;have fr := fun i => ah hB8 i
         clear hF hD hd;unfold ag
         go_simp
         simp only [ac];have hW' := hW;have g1' := hW'.pm.pd.l1;have g2' := hW'.pm.l2;have g3' := hW'.l3;have hbl := ((hW'.pm.pd.bel.setCell (show w.heap.size ≤ B8 by omega) (p := ⟨B8, 0, none⟩) (.int .i64 s)).setCell (p := ⟨B8, 1, none⟩) (show w.heap.size ≤ B8 by omega) (.bool b)).setCell (p := ⟨B8, 2, none⟩) (show w.heap.size ≤ B8 by omega) (.slice ao5 n5 c5);have ho : ∀ g, g ≠ B8 → (((W.setCell ⟨B8, 0, none⟩ (.int .i64 s)).setCell ⟨B8, 1, none⟩ (.bool b)).setCell ⟨B8, 2, none⟩ (.slice ao5 n5 c5)).heap[g]? = W.heap[g]? := fun g hg => aj _ _ _ hg
         exact hR _ _ ⟨B8, B9, _, v1, v2, (aJ (i := 12) (j := 7) _ _ (by decide)).trans hxp, hvp.but hB8 (by decide) ho, (aJ (i := 12) (j := 10) _ _ (by decide)).trans hx8, (aJ (i := 12) (j := 11) _ _ (by decide)).trans hx9, hne, hl8, hl9, aU hB8, hu.but hB8 (by decide) ho, (ho _ (Ne.symm hne)).trans hB9, hW.but hB8 (by decide) hl8 ho hbl⟩ trivial (by simp [World.setCell])
       simp only [Act.put];refine a_wrt2 (fun x W => ∃ B8 B9 C8 C9, x 10 = .pointer (some ⟨B8, 0, none⟩) ∧ x 11 = .pointer (some ⟨B9, 0, none⟩) ∧ G < B8 ∧ G < B9 ∧ W.heap[B8]? = some (.cells C8 83 (0, 0)) ∧ IV W (.agg C8) zb ∧ W.heap[B9]? = some (.cells C9 83 (0, 0)) ∧ IV W (.agg C9) ze ∧ PG w W D M G r ao i c1 t1 tm #[.int .i64 s', .bool b', .slice ao' n' c'] #[.int .i64 s2, .bool b2, .slice ao2 n2 c2] #[.int .i64 s3, .bool b3, .slice ao3 n3 c3] zd zm zg) (fun _ _ _ h hb => let ⟨B8, B9, C8, C9, h1, h2, h4, h5, h6, h7, h8, h9, h10⟩ := h; ⟨B8, B9, C8, C9, h1, h2, h4, h5, (hb.block _ (ab h6)).trans h6, h7.far hb, (hb.block _ (ab h8)).trans h8, h9.far hb, h10.far hb⟩) (fun x x' w hx hT => let ⟨B8, B9, C8, C9, h1, h2, h⟩ := hT; ⟨B8, B9, C8, C9, (hx 10 (.inr (List.contains_iff_mem.1 rfl))).symm.trans h1, (hx 11 (.inr (List.contains_iff_mem.1 rfl))).symm.trans h2, h⟩) ?_ ?_ ?_
       · intro x; go_simp; done
       · intro x W R hW hF hD hR;have hs := hF.2.2.2.1.1 rfl;have hT := hF.1.2 rfl rfl rfl;simp only [AK.fact] at hT;simp only [AK.free] at hs;obtain ⟨B8, B9, C8, v1, v2, hxp, hu, hx8, hx9, hne, hl8, hl9, hB8, hI, hB9, hW'⟩ := hT;obtain ⟨v1', hs⟩ := hs;rw [hxp] at hs;injection hs with hs;injection hs with hs;injection hs with _ hs;injection hs with hs _;subst hs;obtain ⟨s, b, ao5, n5, c5, hx7⟩ := ae hu;rw [hx7] at hu;simp only [hx9, hx7];have e0 := aa hB9 0;have e1 := aa hB9 1;have e2 := aa hB9 2;have fr := fun i => ah hB9 i
         clear hF hD;unfold ag
         go_simp
         simp only [ac];have g1' := hW'.pm.pd.l1;have g2' := hW'.pm.l2;have g3' := hW'.l3;have hbl := ((hW'.pm.pd.bel.setCell (show w.heap.size ≤ B9 by omega) (p := ⟨B9, 0, none⟩) (.int .i64 s)).setCell (p := ⟨B9, 1, none⟩) (show w.heap.size ≤ B9 by omega) (.bool b)).setCell (p := ⟨B9, 2, none⟩) (show w.heap.size ≤ B9 by omega) (.slice ao5 n5 c5);have ho : ∀ g, g ≠ B9 → (((W.setCell ⟨B9, 0, none⟩ (.int .i64 s)).setCell ⟨B9, 1, none⟩ (.bool b)).setCell ⟨B9, 2, none⟩ (.slice ao5 n5 c5)).heap[g]? = W.heap[g]? := fun g hg => aj _ _ _ hg
         exact hR _ _ ⟨B8, B9, C8, _, (aJ (i := 13) (j := 10) _ _ (by decide)).trans hx8, (aJ (i := 13) (j := 11) _ _ (by decide)).trans hx9, hl8, hl9, (ho _ hne).trans hB8, hI.but hB9 (by decide) ho, aU hB9, hu.but hB9 (by decide) ho, hW'.but hB9 (by decide) hl9 ho hbl⟩ trivial (by simp [World.setCell])
       simp only [Act.put];refine a_nil (by kernel_rfl) (by kernel_rfl) (by kernel_rfl) (fun _ _ h hb => h.far hb) (fun _ _ _ _ => trivial) (fun _ _ => trivial) (HP3.out.far (Below.refl _ _).drew) ?_;intro x W hE hW hF hD;clear hD;obtain ⟨B8, B9, C8, C9, hx8, hx9, hl8, hl9, hB8, hI8, hB9, hI9, hp⟩ := hF.1.2 rfl;simp only [hx8, hx9];have HPG := hid hp;have HI8 := hid hI8;have HI9 := hid hI9;have HB8 := hid hB8;have HB9 := hid hB9;obtain ⟨s8, b8, a8, n8, c8, hC8⟩ := ae hI8;injection hC8 with hC8;subst hC8;obtain ⟨s9, b9, a9, n9, c9, hC9⟩ := ae hI9;injection hC9 with hC9;subst hC9;have p0 := aa hp.pm.pd.a 0;have e0 := aa hB9 0;have e1 := aa hB9 1;have e2 := aa hB9 2;clear hF hW hx8 hx9 hB8 hI8 hB9 hI9 hp
       go_wp2_with fail
       refine (isZero_any _ ze _ HI9.out).mono ?_;rintro e w6 ⟨rfl, hb⟩;replace HPG := hid (HPG.out.far hb);replace HI8 := hid (HI8.out.far hb);replace HB8 := hid ((hb.block _ (ab HB8.out)).trans HB8.out);clear hb p0 e0 e1 e2 HI9 HB9
       by_cases hz : ze = 0
       · have HZ0 := hid hz;rw [decide_eq_true hz];clear hz;obtain ⟨sm, bm, am, nm, cm, hCm⟩ := ae HPG.out.pm.vm;injection hCm with hCm;have x0 := aa HPG.out.pm.hm 0;have x1 := aa HPG.out.pm.hm 1;have x2 := aa HPG.out.pm.hm 2;have y0 := aa HPG.out.hg 0;have y1 := aa HPG.out.hg 1;have y2 := aa HPG.out.hg 2;clear hCm
         go_wp2_with fail
         refine (HQM.out _ _ _ HPG.out.pm.vm HPG.out.vg).mono ?_;rintro e w7 ⟨v1, v2, rfl, hv1, hv2, hb⟩;replace HPG := hid (HPG.out.far hb);replace HI8 := hid (HI8.out.far hb);replace HB8 := hid ((hb.block _ (ab HB8.out)).trans HB8.out);have HV1 := hid hv1;obtain ⟨s5, b5, a5, n5, c5, rfl⟩ := ae hv1;obtain ⟨s6, b6, a6, n6, c6, rfl⟩ := ae hv2;clear hb x0 x1 x2 y0 y1 y2 hv1 hv2
         go_wp2_with fail
         obtain ⟨m5, m6, mb5⟩ := newL2 w7 (.cells #[.int .i64 s5, .bool b5, .slice a5 n5 c5] 83) (.cells #[.int .i64 s6, .bool b6, .slice a6 n6 c6] 83);have hl14 := ab HPG.out.hg;have HL14 := hid hl14;replace HPG := hid (HPG.out.far mb5);replace HI8 := hid (HI8.out.far mb5);replace HB8 := hid ((mb5.block _ (ab HB8.out)).trans HB8.out);have HB14 := hid m5;have HI14 := hid (HV1.out.far mb5);clear m5 m6 mb5 HV1 hl14;generalize (w7.alloc (.cells #[.int .i64 s5, .bool b5, .slice a5 n5 c5] 83)).alloc (.cells #[.int .i64 s6, .bool b6, .slice a6 n6 c6] 83) = w8 at *;generalize w7.heap.size = B14 at *;obtain ⟨zv, hzv⟩ : ∃ zv : Int, zm / zg = zv := ⟨_, rfl⟩
         have HZV := hid hzv;rw [hzv] at HI14;clear hzv;refine (isOne_any _ zv _ HI14.out).mono ?_;rintro e w9 ⟨rfl, hb⟩;replace HPG := hid (HPG.out.far hb);replace HI8 := hid (HI8.out.far hb);replace HB8 := hid ((hb.block _ (ab HB8.out)).trans HB8.out);replace HI14 := hid (HI14.out.far hb);replace HB14 := hid ((hb.block _ (ab HB14.out)).trans HB14.out);clear hb
         by_cases hz1 : zv = 1
         · have HZ1 := hid hz1;rw [decide_eq_true hz1];clear hz1
           go_wp2_with fail
           refine (constant_any _ 2 _).mono ?_;rintro e w10 ⟨rfl, hb⟩;replace HPG := hid (HPG.out.far hb);clear hb HI8 HB8 HI14 HB14;have y0 := aa HPG.out.pm.pd.r 0;have y1 := aa HPG.out.pm.pd.r 1;have y2 := aa HPG.out.pm.pd.r 2;have y3 := aa HPG.out.pm.pd.r 3;have y4 := aa HPG.out.pm.pd.r 4;have fr := fun i => ah HPG.out.pm.pd.r i
           have HDF : Hid (DF r m p cs (if r = 4 then 1 else 2) 0 (fun _ => 0) ⟨#[]⟩) := hid ⟨ar p.den cs, zm, zg, rfl, by rw [← HZM.out, ← HZD.out], HZG.out.symm, .inr (.inl ⟨by rw [HZR.out, HZE.out]; exact HZ0.out, by rw [HZV.out]; exact HZ1.out, rfl, rfl, rfl, rfl⟩)⟩
           have hrr : (if (r == 4) = true then (1 : Int) else 2) = (if r = 4 then 1 else 2) := by
            by_cases h4 : r = 4
            · subst h4; rfl
            · simp [h4]
           rw [hrr];generalize (if r = 4 then (1 : Int) else 2) = rr at *
           go_wp2_with fail
           exact end_con rfl rfl rfl (az HPG.out.pm.pd.r _ _ _ _ _) (HPOST.out _ _ _ _ _ _ HDF.out ⟨[], none, 0, 0, _, rfl, nilLV _ 2 _, fun _ => rfl, ax HPG.out.pm.pd.bel (by omega) _ _ _ _ _⟩)
         · have HZ1 := hid hz1;rw [decide_eq_false hz1];clear hz1;have HST : Hid (∀ W u z, Below w.heap.size w W → IV W u z → Calls Tryz.prog 122 #[u] W fun e w' => e = .returned (.string (TX ((z : Int) : Rat))) ∧ Below W.heap.size W w') := hid (fun W u z hW hu => intString_any hu (HE.out.far hW));have p0 := aa HPG.out.pm.pd.a 0;clear p0
           go_wp2_with fail
           refine aF [[], [0], [], [2], [], [2, 3, 4], [2, 3, 4, 5], [0, 1, 2, 3, 4, 5, 6], [], [0, 1, 2, 3, 4, 5, 6, 7, 8]] (fun W => (PG w W D M G r ao i c1 t1 tm #[.int .i64 s', .bool b', .slice ao' n' c'] #[.int .i64 s2, .bool b2, .slice ao2 n2 c2] #[.int .i64 s3, .bool b3, .slice ao3 n3 c3] zd zm zg) ∧ W.heap[B14]? = some (.cells #[.int .i64 s5, .bool b5, .slice a5 n5 c5] 83 (0, 0)) ∧ IV W (.agg #[.int .i64 s5, .bool b5, .slice a5 n5 c5]) zv ∧ W.heap[B8]? = some (.cells #[.int .i64 s8, .bool b8, .slice a8 n8 c8] 83 (0, 0)) ∧ IV W (.agg #[.int .i64 s8, .bool b8, .slice a8 n8 c8]) zb) (fun _ => True) ?_
           iterate 3
            apply aM
            · intro x; go_simp; done
            · intro x W R hW hF hR;have p0 := aa hW.1.pm.pd.a 0;have q0 := aa hW.2.1 0;have q1 := aa hW.2.1 1;have q2 := aa hW.2.1 2;have u0 := aa hW.2.2.2.1 0;have u1 := aa hW.2.2.2.1 1;have u2 := aa hW.2.2.2.1 2;clear hF;unfold ag
              go_simp
              simp only [ac];exact hR _ (Below.refl _ _)
            simp only [Act.put, List.setIfInBounds_toArray, List.set_cons_zero, List.set_cons_succ]
           apply aM
           · intro x; go_simp; done
           · intro x W R hW hF hR;clear hF;unfold ag
             go_simp
             simp only [ac];refine (HST.out W _ zv hW.1.pm.pd.bel hW.2.2.1).mono ?_;rintro e w' ⟨rfl, hb⟩;exact ⟨_, rfl, hR _ hb⟩
           simp only [Act.put, List.setIfInBounds_toArray, List.set_cons_zero, List.set_cons_succ];apply aM
           · intro x; go_simp; done
           · intro x W R hW hF hR;have p0 := aa hW.1.pm.pd.a 0;have q0 := aa hW.2.1 0;have q1 := aa hW.2.1 1;have q2 := aa hW.2.1 2;have u0 := aa hW.2.2.2.1 0;have u1 := aa hW.2.2.2.1 1;have u2 := aa hW.2.2.2.1 2;clear hF;unfold ag
             go_simp
             simp only [ac];exact hR _ (Below.refl _ _)
           simp only [Act.put, List.setIfInBounds_toArray, List.set_cons_zero, List.set_cons_succ];apply aM
           · intro x; go_simp; done
           · intro x W R hW hF hR;clear hF;unfold ag
             go_simp
             simp only [ac];refine (HST.out W _ zb hW.1.pm.pd.bel hW.2.2.2.2).mono ?_;rintro e w' ⟨rfl, hb⟩;exact ⟨_, rfl, hR _ hb⟩
           simp only [Act.put, List.setIfInBounds_toArray, List.set_cons_zero, List.set_cons_succ]
           iterate 2
            apply aM
            · intro x; go_simp; done
            · intro x W R hW hF hR;clear hF;unfold ag
              go_simp
              simp only [ac];exact hR _ (Below.refl _ _)
            simp only [Act.put, List.setIfInBounds_toArray, List.set_cons_zero, List.set_cons_succ]
           refine a_new (fun B W => G < B ∧ W.heap[B]? = some (.cells #[.int .i64 0, .int .i64 0, .slice none 0 0, .string ⟨#[]⟩, .string ⟨#[]⟩] 39 (0, 0))) (fun _ _ _ h hb => ⟨h.1, (hb.block _ (ab h.2)).trans h.2⟩) ?_ ?_ ?_
           · intro x; go_simp; done
           · intro x W R hW hF hR;clear hF;unfold ag
             go_simp
             simp only [ac];exact hR _ ⟨ab hW.1.hg, heap_alloc_new _ _⟩ ((Below.refl _ _).alloc (Nat.le_refl _) _) (by simp)
           simp only [Act.put, List.setIfInBounds_toArray, List.set_cons_zero, List.set_cons_succ, List.length_cons, List.length_nil, Nat.zero_add, Nat.reduceAdd];refine a_wrt (fun x W => ∃ N, x 8 = .pointer (some ⟨N, 0, none⟩) ∧ G < N ∧ W.heap[N]? = some (.cells #[.int .i64 r, .int .i64 2, .slice none 0 0, .string (TX ((zb : Int) : Rat)), .string (TX ((zv : Int) : Rat))] 39 (0, 0)) ∧ (PG w W D M G r ao i c1 t1 tm #[.int .i64 s', .bool b', .slice ao' n' c'] #[.int .i64 s2, .bool b2, .slice ao2 n2 c2] #[.int .i64 s3, .bool b3, .slice ao3 n3 c3] zd zm zg)) (fun _ _ _ h hb => let ⟨N, h1, h2, h3, h4⟩ := h; ⟨N, h1, h2, (hb.block _ (ab h3)).trans h3, h4.far hb⟩) (fun x x' w hx hT => let ⟨N, h1, h⟩ := hT; ⟨N, (hx 8 (.inr (List.contains_iff_mem.1 rfl))).symm.trans h1, h⟩) ?_ ?_ ?_
           · intro x; go_simp; done
           · intro x W R hW hF hD hR;have hb := hF.1.2 rfl rfl rfl;simp only [AK.fact] at hb;obtain ⟨N, hx8, hl, hN⟩ := hb;simp only [hx8];have e0 := aa hN 0;have e1 := aa hN 1;have e2 := aa hN 2;have e3 := aa hN 3;have e4 := aa hN 4;have fr := fun i => ah hN i
             clear hF hD;unfold ag
             go_simp
             simp only [ac];have g1' := hW.1.pm.pd.l1;have g2' := hW.1.pm.l2;have g3' := hW.1.l3;exact hR _ _ ⟨N, (aJ (i := 9) (j := 8) _ _ (by decide)).trans hx8, hl, az hN _ _ _ _ _, hW.1.but hN (by decide) hl (fun g hg => aN _ _ _ _ _ hg) (ax hW.1.pm.pd.bel (by omega) _ _ _ _ _)⟩ trivial (by simp [World.setCell])
           simp only [Act.put];refine a_nil (by kernel_rfl) (by kernel_rfl) (by kernel_rfl) (fun _ _ h hb => ⟨h.1.far hb, (hb.block _ (ab h.2.1)).trans h.2.1, h.2.2.1.far hb, (hb.block _ (ab h.2.2.2.1)).trans h.2.2.2.1, h.2.2.2.2.far hb⟩) (fun _ _ _ _ => trivial) (fun _ _ => trivial) (⟨HPG.out.far (Below.refl _ _).drew, ((Below.refl w9.heap.size w9).drew.block _ (ab HB14.out)).trans HB14.out, HI14.out.far (Below.refl _ _).drew, ((Below.refl w9.heap.size w9).drew.block _ (ab HB8.out)).trans HB8.out, HI8.out.far (Below.refl _ _).drew⟩) ?_;intro x W hE hW hF hD;clear hD;obtain ⟨N, hx8, hlN, hN, hp⟩ := hF.1.2 rfl;simp only [hx8];obtain ⟨tb, htb⟩ : ∃ tb, TX ((zb : Int) : Rat) = tb := ⟨_, rfl⟩
           obtain ⟨tv, htv⟩ : ∃ tv, TX ((zv : Int) : Rat) = tv := ⟨_, rfl⟩
           have HTB := hid htb;have HTV := hid htv;rw [htb, htv] at hN;have HPN := hid (⟨hp, hN, World.ownsRow_nil _ _ _ _, hlN⟩ : PN w W D M G N r ao i c1 t1 tm tb tv #[.int .i64 s', .bool b', .slice ao' n' c'] #[.int .i64 s2, .bool b2, .slice ao2 n2 c2] #[.int .i64 s3, .bool b3, .slice ao3 n3 c3] zd zm zg (.slice none 0 0) (.slice none 0 0) [])
           have HDZ : Hid (DS (10 * d + 1) ((zm : Int) : Rat)) := hid (by
            have h1 := HMD.out.mul HFDS.out;rw [← Rat.intCast_mul, HZM.out] at h1
            exact h1.mono (by omega))
           have p2 := aa hp.pm.pd.a 2;have hla := ab hp.pm.pd.a;clear hF hW hp hN hx8 htb htv hlN HPG HB8 HI8 HB14 HI14
           go_wp2_with fail
           go_loopg [105] i (fun gh v105 wr => ∃ (j : Nat) (v : Value) (rs : List (List UInt8 × Rat)), gh = i - j ∧ j ≤ i ∧ v105 = .int .i64 j ∧ PN w wr D M G N r ao i c1 t1 tm tb tv #[.int .i64 s', .bool b', .slice ao' n' c'] #[.int .i64 s2, .bool b2, .slice ao2 n2 c2] #[.int .i64 s3, .bool b3, .slice ao3 n3 c3] zd zm zg v v rs ∧ RD (ar p.den cs) zm zg (10 * d + 1) cs rs j)
           case atStart => exact ⟨0, _, _, rfl, Nat.zero_le _, rfl, HPN.out, RD.start _ _ _ _ _⟩
           case round =>
            obtain ⟨j, v, rs, rfl, hj, rfl, hp, hrd⟩ := hrel;have HP3 := hid hp;have HRD := hid hrd;clear hp hrd HPN p2 hla;have hj0 : (0 : Int) ≤ (j : Int) := by omega
            by_cases hlt : j < i
            · have had := HC.out.ad (by omega);subst had;have hlt' : j < cs.length := by rw [HN.out]; exact hlt
              have hlti : (j : Int) < (i : Int) := by omega
              have c0 := (HC.out.far HP3.out.pg.pm.pd.bel).nm j hlt';have c1' := (HC.out.far HP3.out.pg.pm.pd.bel).nu j hlt';have hq := HG.out.ds _ (List.getElem_mem hlt');have hzn : zm ≠ 0 := by have := HZP.out; omega
              have hrs : ∀ W v v2 rs, PN w W D M G N r (some ⟨g, off, none⟩) i c1 t1 tm tb tv #[.int .i64 s', .bool b', .slice ao' n' c'] #[.int .i64 s2, .bool b2, .slice ao2 n2 c2] #[.int .i64 s3, .bool b3, .slice ao3 n3 c3] zd zm zg v v2 rs → Calls Tryz.prog 119 #[.string (TX cs[j].2), .pointer (some ⟨D, 0, none⟩), .pointer (some ⟨M, 0, none⟩)] W (aY (rsD (ar p.den cs) zm cs[j].2) W) := fun W _ _ _ h => by
               have := restI h.pg.pm.pd.hd h.pg.pm.pd.vd h.pg.pm.hm h.pg.pm.vm hq HFDS.out hzn HFZ.out (by omega) (by omega) (HE.out.far h.pg.pm.pd.bel);rw [← HZD.out, Rat.intCast_natCast] at this;exact this
              have fr0 : Fit (rsD (ar p.den cs) zm cs[j].2) := rs_fit HZP.out HFZ.out _;obtain ⟨zr3, hzr3⟩ : ∃ z : Int, rsD (ar p.den cs) zm cs[j].2 = z := ⟨_, rfl⟩
              obtain ⟨zq, hzq⟩ : ∃ z : Int, zr3 / zg = z := ⟨_, rfl⟩
              obtain ⟨zf, hzf⟩ : ∃ z : Int, zr3 % zg = z := ⟨_, rfl⟩
              have hdq : DS (10 * d + 1) ((zq : Int) : Rat) := by
               rw [← hzq, ← hzr3];exact rs_div HZP.out HGP.out _ HDZ.out
              have hstep := HRD.out.step HG.out hlt' (by rw [hzr3, hzq]) hdq;have HSTEP := hid hstep;rw [hzr3] at hrs fr0;have hqr3 := fun W u v (hu : IV W u zr3) (hv : IV W v zg) => quoRem_any u v _ _ W hu hv fr0 HGF.out (by have := HGP.out; omega)
              unfold QRPost at hqr3;rw [hzq, hzf] at hqr3;have HRS3 := hid hrs;have HQR3 := hid hqr3;have HNL : Hid (rs.length ≤ 8) := hid (can_len8 HRD.out.good);clear hrs hqr3 fr0 hq hzn hzr3 hzq hzf hdq hstep;obtain ⟨tn, htn⟩ : ∃ tn : ByteArray, (⟨cs[j].1.toArray⟩ : ByteArray) = tn := ⟨_, rfl⟩
              have HTN := hid htn;rw [htn] at c0;obtain ⟨tq, htq⟩ : ∃ tq : ByteArray, TX cs[j].2 = tq := ⟨_, rfl⟩
              rw [htq] at c1' HRS3;clear htq htn;obtain ⟨nm, hnm⟩ : ∃ nm, cs[j].1 = nm := ⟨_, rfl⟩
              rw [hnm] at HTN HSTEP;clear hnm
              go_wp2_with fail
              have hal : Below wr.heap.size wr (wr.alloc (.cells #[.string tn, .string tq] 79)) := (Below.refl _ _).alloc (Nat.le_refl _) _;have HP4 := hid (HP3.out.far hal);have HNQ := hid (ab HP3.out.hn);have HN2 := hid (heap_alloc_new wr (.cells #[.string tn, .string tq] 79));clear hal c0 c1' HP3;generalize wr.alloc (.cells #[.string tn, .string tq] 79) = wa at *;generalize wr.heap.size = Q at *;refine aF [[], [], [1], [0, 1, 2], [], [0, 1, 2, 3, 4], [0, 1, 2, 3, 4, 5], [0, 1, 2, 3, 4, 5, 6], [0, 1, 2, 3, 4, 5, 6], [], [], [0, 1, 2, 3, 4, 5, 6, 7, 9, 10], [0, 1, 2, 3, 4, 5, 6, 7, 8, 9, 10, 11]] (fun W => PN w W D M G N r (some ⟨g, off, none⟩) i c1 t1 tm tb tv #[.int .i64 s', .bool b', .slice ao' n' c'] #[.int .i64 s2, .bool b2, .slice ao2 n2 c2] #[.int .i64 s3, .bool b3, .slice ao3 n3 c3] zd zm zg v v rs ∧ W.heap[Q]? = some (.cells #[.string tn, .string tq] 79 (0, 0))) (fun _ => True) ?_
              iterate 3
               apply aM
               · intro x; go_simp; done
               · intro x W R hW hF hR;have p0 := aa hW.1.pg.hg 0;have p1 := aa hW.1.pg.hg 1;have p2 := aa hW.1.pg.hg 2;have q0 := aa hW.2 0;have q1 := aa hW.2 1;clear hF;unfold ag
                 go_simp
                 simp only [ac];exact hR _ (Below.refl _ _)
               simp only [Act.put, List.setIfInBounds_toArray, List.set_cons_zero, List.set_cons_succ]
              refine ba (fun v W => IV W v (zr3)) (fun _ _ _ h hb => h.far hb) ?_ ?_ ?_
              · intro x; go_simp; done
              · intro x W R hW hF hR;clear hF;unfold ag
                go_simp
                simp only [ac];refine (HRS3.out W _ _ _ hW.1).mono ?_;rintro e w' ⟨v, rfl, hv, hb⟩;exact ⟨v, rfl, hR _ _ hv hb⟩
              simp only [Act.put, List.setIfInBounds_toArray, List.set_cons_zero, List.set_cons_succ, List.length_cons, List.length_nil, Nat.zero_add, Nat.reduceAdd];apply aM
              · intro x; go_simp; done
              · intro x W R hW hF hR;have p0 := aa hW.1.pg.hg 0;have p1 := aa hW.1.pg.hg 1;have p2 := aa hW.1.pg.hg 2;have q0 := aa hW.2 0;have q1 := aa hW.2 1;clear hF;unfold ag
                go_simp
                simp only [ac];exact hR _ (Below.refl _ _)
              simp only [Act.put, List.setIfInBounds_toArray, List.set_cons_zero, List.set_cons_succ];refine a_opqF (PairShape) (fun v W => ∃ v1 v2, v = .tuple #[v1, v2] ∧ IV W v1 zq ∧ IV W v2 zf) (fun _ _ _ h hb => let ⟨v1, v2, h1, h2, h3⟩ := h; ⟨v1, v2, h1, h2.far hb, h3.far hb⟩) ?_ ?_ ?_
              · intro x; go_simp; done
              · intro x W R hW hF hR;have hu := hF.2.1.2 rfl rfl rfl;simp only [AK.fact] at hu;clear hF;unfold ag
                go_simp
                simp only [ac];refine (HQR3.out W _ _ hu hW.1.pg.vg).mono ?_;rintro e w' ⟨v1, v2, rfl, hv1, hv2, hb⟩;exact ⟨_, rfl, hR _ _ ⟨v1, v2, rfl, hv1.shape, hv2.shape⟩ ⟨v1, v2, rfl, hv1, hv2⟩ hb⟩
              simp only [Act.put, List.setIfInBounds_toArray, List.set_cons_zero, List.set_cons_succ, List.length_cons, List.length_nil, Nat.zero_add, Nat.reduceAdd];refine a_opqF (PairShape) (fun v W => ∃ v1 v2, v = .tuple #[v1, v2] ∧ IV W v1 zq ∧ IV W v2 zf) (fun _ _ _ h hb => let ⟨v1, v2, h1, h2, h3⟩ := h; ⟨v1, v2, h1, h2.far hb, h3.far hb⟩) ?_ ?_ ?_
              · intro x; go_simp; done
              · intro x W R hW hF hR;have hu := hF.1.2 rfl rfl rfl;have hs := hF.1.1 rfl;simp only [AK.fact] at hu;simp only [AK.free] at hs;clear hF;unfold ag
                go_simp
                simp only [ac];exact hR _ _ hs hu (Below.refl _ _)
              simp only [Act.put, List.setIfInBounds_toArray, List.set_cons_zero, List.set_cons_succ, List.length_cons, List.length_nil, Nat.zero_add, Nat.reduceAdd];refine ba (fun v W => IV W v (zq)) (fun _ _ _ h hb => h.far hb) ?_ ?_ ?_
              · intro x; go_simp; done
              · intro x W R hW hF hR;have hu := hF.1.2 rfl rfl rfl;simp only [AK.fact] at hu;obtain ⟨v1, v2, hx, hv1, hv2⟩ := hu;simp only [hx];clear hF;unfold ag
                go_simp
                simp only [ac];exact hR _ _ hv1 (Below.refl _ _)
              simp only [Act.put, List.setIfInBounds_toArray, List.set_cons_zero, List.set_cons_succ, List.length_cons, List.length_nil, Nat.zero_add, Nat.reduceAdd];refine a_freX (fun x => ∃ v1, x 6 = .tuple #[v1, x 8]) (fun x x' hx h => by rw [← hx 6 (.inr (List.contains_iff_mem.1 rfl)), ← hx 8 (.inl rfl)]; exact h) ?_ ?_ ?_
              · intro x; go_simp; done
              · intro x W R hW hF hR;have hs := hF.2.1.1 rfl;simp only [AK.free] at hs;obtain ⟨v1, v2, hx, hs1, hs2⟩ := hs;simp only [hx];clear hF;unfold ag
                go_simp
                simp only [ac];refine hR _ _ ⟨v1, ?_⟩ (Below.refl _ _);show updX x 8 v2 6 = .tuple #[v1, updX x 8 v2 8];rw [bk, aJ (i := 8) (j := 6) _ _ (by decide)];exact hx
              simp only [Act.put, List.setIfInBounds_toArray, List.set_cons_zero, List.set_cons_succ, List.length_cons, List.length_nil, Nat.zero_add, Nat.reduceAdd];refine a_new (fun B W => Q < B ∧ W.heap[B]? = some (.cells #[.int .i64 0, .bool false, .slice none 0 0] 83 (0, 0))) (fun _ _ _ h hb => ⟨h.1, (hb.block _ (ab h.2)).trans h.2⟩) ?_ ?_ ?_
              · intro x; go_simp; done
              · intro x W R hW hF hR;clear hF;unfold ag
                go_simp
                simp only [ac];exact hR _ ⟨ab hW.2, heap_alloc_new _ _⟩ ((Below.refl _ _).alloc (Nat.le_refl _) _) (by simp)
              simp only [Act.put, List.setIfInBounds_toArray, List.set_cons_zero, List.set_cons_succ, List.length_cons, List.length_nil, Nat.zero_add, Nat.reduceAdd];refine a_new (fun B W => Q < B ∧ W.heap[B]? = some (.cells #[.int .i64 0, .bool false, .slice none 0 0] 83 (0, 0))) (fun _ _ _ h hb => ⟨h.1, (hb.block _ (ab h.2)).trans h.2⟩) ?_ ?_ ?_
              · intro x; go_simp; done
              · intro x W R hW hF hR;clear hF;unfold ag
                go_simp
                simp only [ac];exact hR _ ⟨ab hW.2, heap_alloc_new _ _⟩ ((Below.refl _ _).alloc (Nat.le_refl _) _) (by simp)
              simp only [Act.put, List.setIfInBounds_toArray, List.set_cons_zero, List.set_cons_succ, List.length_cons, List.length_nil, Nat.zero_add, Nat.reduceAdd];refine a_wrt (fun x W => ∃ B8 B9 C8 v1 v2, x 6 = .tuple #[v1, v2] ∧ IV W v2 zf ∧ x 9 = .pointer (some ⟨B8, 0, none⟩) ∧ x 10 = .pointer (some ⟨B9, 0, none⟩) ∧ B8 ≠ B9 ∧ Q < B8 ∧ Q < B9 ∧ W.heap[B8]? = some (.cells C8 83 (0, 0)) ∧ IV W (.agg C8) zq ∧ W.heap[B9]? = some (.cells #[.int .i64 0, .bool false, .slice none 0 0] 83 (0, 0)) ∧ (PN w W D M G N r (some ⟨g, off, none⟩) i c1 t1 tm tb tv #[.int .i64 s', .bool b', .slice ao' n' c'] #[.int .i64 s2, .bool b2, .slice ao2 n2 c2] #[.int .i64 s3, .bool b3, .slice ao3 n3 c3] zd zm zg v v rs ∧ W.heap[Q]? = some (.cells #[.string tn, .string tq] 79 (0, 0)))) (fun _ _ _ h hb => let ⟨B8, B9, C8, v1, v2, g1, g2, h1, h2, h3, h4, h5, h6, h7, h8, h⟩ := h; ⟨B8, B9, C8, v1, v2, g1, g2.far hb, h1, h2, h3, h4, h5, (hb.block _ (ab h6)).trans h6, h7.far hb, (hb.block _ (ab h8)).trans h8, ⟨h.1.far hb, (hb.block _ (ab h.2)).trans h.2⟩⟩) (fun x x' w hx hT => let ⟨B8, B9, C8, v1, v2, g1, g2, h1, h2, h⟩ := hT; ⟨B8, B9, C8, v1, v2, (hx 6 (.inr (List.contains_iff_mem.1 rfl))).symm.trans g1, g2, (hx 9 (.inr (List.contains_iff_mem.1 rfl))).symm.trans h1, (hx 10 (.inr (List.contains_iff_mem.1 rfl))).symm.trans h2, h⟩) ?_ ?_ ?_
              · intro x; go_simp; done
              · intro x W R hW hF hD hR;have hu := hF.2.2.2.1.2 rfl rfl rfl;have hp := hF.2.2.2.2.1.2 rfl rfl rfl;have h8 := hF.2.1.2 rfl rfl rfl;have h9 := hF.1.2 rfl rfl rfl;have hd := hD 9 10 (List.contains_iff_mem.1 rfl) (List.contains_iff_mem.1 rfl) (by omega) rfl rfl;simp only [AK.fact] at hu hp h8 h9;obtain ⟨v1, v2, hxp, -, hvp⟩ := hp;obtain ⟨B8, hx8, hl8, hB8⟩ := h8;obtain ⟨B9, hx9, hl9, hB9⟩ := h9;have hne : B8 ≠ B9 := fun e => hd (by rw [hx8, hx9, e])
                obtain ⟨s, b, ao5, n5, c5, hx6⟩ := ae hu;rw [hx6] at hu;simp only [hx8, hx6];have e0 := aa hB8 0;have e1 := aa hB8 1;have e2 := aa hB8 2;have fr := fun i => ah hB8 i
                clear hF hD hd;unfold ag
                go_simp
                simp only [ac];have hW' := hW;have g1' := hW'.1.pg.pm.pd.l1;have g2' := hW'.1.pg.pm.l2;have g3' := hW'.1.pg.l3;have g4' := hW'.1.l4;have g5' := HNQ.out;have hbl := ((hW'.1.pg.pm.pd.bel.setCell (show w.heap.size ≤ B8 by omega) (p := ⟨B8, 0, none⟩) (.int .i64 s)).setCell (p := ⟨B8, 1, none⟩) (show w.heap.size ≤ B8 by omega) (.bool b)).setCell (p := ⟨B8, 2, none⟩) (show w.heap.size ≤ B8 by omega) (.slice ao5 n5 c5);have ho : ∀ g, g ≠ B8 → (((W.setCell ⟨B8, 0, none⟩ (.int .i64 s)).setCell ⟨B8, 1, none⟩ (.bool b)).setCell ⟨B8, 2, none⟩ (.slice ao5 n5 c5)).heap[g]? = W.heap[g]? := fun g hg => aj _ _ _ hg
                exact hR _ _ ⟨B8, B9, _, v1, v2, (aJ (i := 11) (j := 6) _ _ (by decide)).trans hxp, hvp.but hB8 (by decide) ho, (aJ (i := 11) (j := 9) _ _ (by decide)).trans hx8, (aJ (i := 11) (j := 10) _ _ (by decide)).trans hx9, hne, hl8, hl9, aU hB8, hu.but hB8 (by decide) ho, (ho _ (Ne.symm hne)).trans hB9, hW.1.but hB8 (by omega) ho hbl, (ho _ (by omega)).trans hW.2⟩ trivial (by simp [World.setCell])
              simp only [Act.put];refine a_wrt2 (fun x W => ∃ B8 C8, x 9 = .pointer (some ⟨B8, 0, none⟩) ∧ Q < B8 ∧ W.heap[B8]? = some (.cells C8 83 (0, 0)) ∧ IV W (.agg C8) zq ∧ (PN w W D M G N r (some ⟨g, off, none⟩) i c1 t1 tm tb tv #[.int .i64 s', .bool b', .slice ao' n' c'] #[.int .i64 s2, .bool b2, .slice ao2 n2 c2] #[.int .i64 s3, .bool b3, .slice ao3 n3 c3] zd zm zg v v rs ∧ W.heap[Q]? = some (.cells #[.string tn, .string tq] 79 (0, 0)))) (fun _ _ _ h hb => let ⟨B8, C8, h1, h4, h6, h7, h⟩ := h; ⟨B8, C8, h1, h4, (hb.block _ (ab h6)).trans h6, h7.far hb, ⟨h.1.far hb, (hb.block _ (ab h.2)).trans h.2⟩⟩) (fun x x' w hx hT => let ⟨B8, C8, h1, h⟩ := hT; ⟨B8, C8, (hx 9 (.inr (List.contains_iff_mem.1 rfl))).symm.trans h1, h⟩) ?_ ?_ ?_
              · intro x; go_simp; done
              · intro x W R hW hF hD hR;have hs := hF.2.2.2.1.1 rfl;have hT := hF.1.2 rfl rfl rfl;simp only [AK.fact] at hT;simp only [AK.free] at hs;obtain ⟨B8, B9, C8, v1, v2, hxp, hu, hx8, hx9, hne, hl8, hl9, hB8, hI, hB9, hW'⟩ := hT;obtain ⟨v1', hs⟩ := hs;rw [hxp] at hs;injection hs with hs;injection hs with hs;injection hs with _ hs;injection hs with hs _;subst hs;obtain ⟨s, b, ao5, n5, c5, hx7⟩ := ae hu;rw [hx7] at hu;simp only [hx9, hx7];have e0 := aa hB9 0;have e1 := aa hB9 1;have e2 := aa hB9 2;have fr := fun i => ah hB9 i
                clear hF hD;unfold ag
                go_simp
                simp only [ac];have g1' := hW'.1.pg.pm.pd.l1;have g2' := hW'.1.pg.pm.l2;have g3' := hW'.1.pg.l3;have g4' := hW'.1.l4;have g5' := HNQ.out;have hbl := ((hW'.1.pg.pm.pd.bel.setCell (show w.heap.size ≤ B9 by omega) (p := ⟨B9, 0, none⟩) (.int .i64 s)).setCell (p := ⟨B9, 1, none⟩) (show w.heap.size ≤ B9 by omega) (.bool b)).setCell (p := ⟨B9, 2, none⟩) (show w.heap.size ≤ B9 by omega) (.slice ao5 n5 c5);have ho : ∀ g, g ≠ B9 → (((W.setCell ⟨B9, 0, none⟩ (.int .i64 s)).setCell ⟨B9, 1, none⟩ (.bool b)).setCell ⟨B9, 2, none⟩ (.slice ao5 n5 c5)).heap[g]? = W.heap[g]? := fun g hg => aj _ _ _ hg
                exact hR _ _ ⟨B8, C8, (aJ (i := 12) (j := 9) _ _ (by decide)).trans hx8, hl8, (ho _ hne).trans hB8, hI.but hB9 (by decide) ho, hW'.1.but hB9 (by omega) ho hbl, (ho _ (by omega)).trans hW'.2⟩ trivial (by simp [World.setCell])
              simp only [Act.put];refine a_nil (by kernel_rfl) (by kernel_rfl) (by kernel_rfl) (fun _ _ h hb => ⟨h.1.far hb, (hb.block _ (ab h.2)).trans h.2⟩) (fun _ _ _ _ => trivial) (fun _ _ => trivial) (⟨HP4.out.far (Below.refl _ _).drew, HN2.out⟩) ?_;intro x W hE hW hF hD;clear hD;obtain ⟨B8, C8, hx8, hl8, hB8, hI8, hp, hQ⟩ := hF.1.2 rfl;simp only [hx8];have HP5 := hid hp;have HQ6 := hid hQ;have HI8 := hid hI8;have HB8 := hid hB8;obtain ⟨s8', b8', a8', n8', c8', hC8⟩ := ae hI8;injection hC8 with hC8;subst hC8;have e0 := aa hB8 0;have e1 := aa hB8 1;have e2 := aa hB8 2;clear hF hW hx8 hB8 hI8 hp hQ hl8 HP4 HN2
              go_wp2_with fail
              refine (isZero_any _ zq _ HI8.out).mono ?_;rintro e w6 ⟨rfl, hb⟩;replace HP5 := hid (HP5.out.far hb);replace HQ6 := hid ((hb.block _ (ab HQ6.out)).trans HQ6.out);replace HI8 := hid (HI8.out.far hb);replace HB8 := hid ((hb.block _ (ab HB8.out)).trans HB8.out);clear hb e0 e1 e2
              by_cases hz3 : zq = 0
              · have hst := HSTEP.out;rw [if_pos hz3] at hst;replace HSTEP := hid hst;rw [decide_eq_true hz3];clear hz3 hst
                go_wp2_with fail
                go_roundg (i - (j + 1))
                case rel => exact ⟨j + 1, v, rs, rfl, by omega, by go_num, HP5.out, HSTEP.out⟩
                case measure => omega
              · have hst := HSTEP.out;rw [if_neg hz3] at hst;replace HSTEP := hid hst;rw [decide_eq_false hz3];clear hz3 hst;obtain ⟨i0, hi0', hz0, hz1, hz2⟩ := info_parts infoCoef
                go_wp2_with fail
                refine aF [[], [0], [0, 1], [], [3], [], [5], [3, 4, 5, 6], [3, 4, 5, 6, 7], [0, 1, 2, 3, 4, 5, 6, 7, 8], [0, 1, 2, 3, 4, 5, 6, 7, 8, 9], [0, 1, 2, 3, 4, 5, 6, 7, 8, 9, 10], [0, 1, 2, 3, 4, 5, 6, 7, 8, 9, 10, 11]] (fun W => PN w W D M G N r (some ⟨g, off, none⟩) i c1 t1 tm tb tv #[.int .i64 s', .bool b', .slice ao' n' c'] #[.int .i64 s2, .bool b2, .slice ao2 n2 c2] #[.int .i64 s3, .bool b3, .slice ao3 n3 c3] zd zm zg v v rs ∧ W.heap[Q]? = some (.cells #[.string tn, .string tq] 79 (0, 0)) ∧ W.heap[B8]? = some (.cells #[.int .i64 s8', .bool b8', .slice a8' n8' c8'] 83 (0, 0)) ∧ IV W (.agg #[.int .i64 s8', .bool b8', .slice a8' n8' c8']) zq) (fun _ => True) ?_
                iterate 6
                 apply aM
                 · intro x; go_simp; done
                 · intro x W R hW hF hR;have p0 := aa hW.1.hn 2;have q0 := aa hW.2.1 0;have q1 := aa hW.2.2.1 0;have q2 := aa hW.2.2.1 1;have q3 := aa hW.2.2.1 2;clear hF;unfold ag
                   go_simp
                   simp only [ac];exact hR _ (Below.refl _ _)
                 simp only [Act.put, List.setIfInBounds_toArray, List.set_cons_zero, List.set_cons_succ]
                apply aM
                · intro x; go_simp; done
                · intro x W R hW hF hR;clear hF;unfold ag
                  go_simp
                  simp only [ac];refine (HST.out W _ zq hW.1.pg.pm.pd.bel hW.2.2.2).mono ?_;rintro e w' ⟨rfl, hb⟩;exact ⟨_, rfl, hR _ hb⟩
                simp only [Act.put, List.setIfInBounds_toArray, List.set_cons_zero, List.set_cons_succ];apply aM
                · intro x; go_simp; done
                · intro x W R hW hF hR;clear hF;unfold ag
                  go_simp
                  simp only [ac];exact hR _ (Below.refl _ _)
                simp only [Act.put, List.setIfInBounds_toArray, List.set_cons_zero, List.set_cons_succ];refine ba (fun u W => ∃ B, u = .slice (some ⟨B, 0, none⟩) 1 1 ∧ W.heap[B]? = some (.cells #[.string tn, .string (TX ((zq : Int) : Rat))] 79 (0, 0))) (fun _ _ _ h hb => let ⟨B, h1, h2⟩ := h; ⟨B, h1, (hb.block _ (ab h2)).trans h2⟩) ?_ ?_ ?_
                · intro x; go_simp; done
                · intro x W R hW hF hR;clear hF;unfold ag
                  go_simp
                  simp only [ac];exact hR _ _ ⟨W.heap.size, rfl, heap_alloc_new _ _⟩ ((Below.refl _ _).alloc (Nat.le_refl _) _)
                simp only [Act.put, List.setIfInBounds_toArray, List.set_cons_zero, List.set_cons_succ, List.length_cons, List.length_nil, Nat.zero_add, Nat.reduceAdd];refine a_wrt (fun x W => PN w W D M G N r (some ⟨g, off, none⟩) i c1 t1 tm tb tv #[.int .i64 s', .bool b', .slice ao' n' c'] #[.int .i64 s2, .bool b2, .slice ao2 n2 c2] #[.int .i64 s3, .bool b3, .slice ao3 n3 c3] zd zm zg v (x 9) (rs ++ [(nm, ((zq : Int) : Rat))])) (fun _ _ _ h hb => h.far hb) (fun x x' w h hT => by have e := h 9 (.inl rfl); rw [e] at hT; exact hT) ?_ ?_ ?_
                · intro x; go_simp; done
                · intro x W R hW hF hD hR;obtain ⟨B, hx, hB⟩ := hF.1.2 rfl rfl rfl;clear hF;simp only [hx];have hrl := HNL.out;refine addAt_append (.tmp 123) (.tmp 129) 24 rfl (N + 1) 79 i0 _ 2 32 Tryz.underlying24 hi0' hz0 hz1 hz2 rfl (by decide) v rs.length (flat rs) rfl hW.1.row ⟨B, 0, none⟩ 1 1 [.string tn, .string (TX ((zq : Int) : Rat))] rfl rfl (World.news_of_block (cs := #[.string tn, .string (TX ((zq : Int) : Rat))]) hB) (by simp [Value.oneCell']) (by unfold maxLen; omega) (by omega) (ab hW.1.hn) ?_;intro v' w' hrow hg;refine hR _ _ ?_ trivial hg.size;show PN w w' D M G N r (some ⟨g, off, none⟩) i c1 t1 tm tb tv #[.int .i64 s', .bool b', .slice ao' n' c'] #[.int .i64 s2, .bool b2, .slice ao2 n2 c2] #[.int .i64 s3, .bool b3, .slice ao3 n3 c3] zd zm zg v (updX x 9 v' 9) (rs ++ [(nm, ((zq : Int) : Rat))]);rw [bk];refine hW.1.grow (x := (nm, ((zq : Int) : Rat))) hg ?_;rw [HTN.out];exact hrow
                simp only [Act.put, List.setIfInBounds_toArray, List.set_cons_zero, List.set_cons_succ, List.length_cons, List.length_nil, Nat.zero_add, Nat.reduceAdd]
                iterate 2
                 apply a_late
                 · intro x; go_simp; done
                 · intro x W R hW hF hR;clear hF hW;unfold ag
                   go_simp
                   simp only [ac];exact hR _ (Below.refl _ _)
                 simp only [Act.put, List.setIfInBounds_toArray, List.set_cons_zero, List.set_cons_succ]
                refine a_wrt2 (fun x W => PN w W D M G N r (some ⟨g, off, none⟩) i c1 t1 tm tb tv #[.int .i64 s', .bool b', .slice ao' n' c'] #[.int .i64 s2, .bool b2, .slice ao2 n2 c2] #[.int .i64 s3, .bool b3, .slice ao3 n3 c3] zd zm zg (x 9) (x 9) (rs ++ [(nm, ((zq : Int) : Rat))])) (fun _ _ _ h hb => h.far hb) (fun x x' w h hT => by have e := h 9 (.inr (List.contains_iff_mem.1 rfl)); rw [e] at hT; exact hT) ?_ ?_ ?_
                · intro x; go_simp; done
                · intro x W R hW hF hD hR;have hL := hF.2.2.1.2 rfl rfl rfl;simp only [AK.fact] at hL;obtain ⟨aq, gq, cq, hv, -, -⟩ := csl_of_row hL.row;simp only [hv];rw [hv] at hL;have e0 := aa hL.hn 2;have fr := fun i => ah hL.hn i
                  clear hF;unfold ag
                  go_simp
                  simp only [ac];refine hR _ _ ?_ trivial (by simp [World.setCell]);show PN w _ D M G N r (some ⟨g, off, none⟩) i c1 t1 tm tb tv #[.int .i64 s', .bool b', .slice ao' n' c'] #[.int .i64 s2, .bool b2, .slice ao2 n2 c2] #[.int .i64 s3, .bool b3, .slice ao3 n3 c3] zd zm zg (updX x 12 _ 9) (updX x 12 _ 9) (rs ++ [(nm, ((zq : Int) : Rat))]);rw [aJ (i := 12) (j := 9) _ _ (by decide), hv];have := hL.set;rw [show (rs ++ [(nm, ((zq : Int) : Rat))]).length = rs.length + 1 by rw [List.length_append]; rfl] at this ⊢;exact this
                simp only [Act.put];refine a_nil (by kernel_rfl) (by kernel_rfl) (by kernel_rfl) (fun _ _ h hb => ⟨h.1.far hb, (hb.block _ (ab h.2.1)).trans h.2.1, (hb.block _ (ab h.2.2.1)).trans h.2.2.1, h.2.2.2.far hb⟩) (fun _ _ _ _ => trivial) (fun _ _ => trivial) (⟨HP5.out.far (Below.refl _ _).drew, ((Below.refl w6.heap.size w6).drew.block _ (ab HQ6.out)).trans HQ6.out, ((Below.refl w6.heap.size w6).drew.block _ (ab HB8.out)).trans HB8.out, HI8.out.far (Below.refl _ _).drew⟩) ?_;intro x W hE hW hF hD;clear hD;have hls := hF.1.2 rfl;have HL2 := hid hls;clear hF hW hls
                go_wp2_with fail
                go_roundg (i - (j + 1))
                case rel => exact ⟨j + 1, _, _, rfl, by omega, by go_num, HL2.out, HSTEP.out⟩
                case measure => omega
            · obtain rfl : j = i := by omega
              have hlti : ¬ ((j : Int) < (j : Int)) := by omega
              have hall : cs.take j = cs := by rw [← HN.out]; exact List.take_length
              obtain ⟨aq, gq, cq, rfl, hcq, hqe⟩ := csl_of_row2 HP3.out.row
              have HLV : Hid (LV wr (.agg #[.int .i64 2, .slice aq rs.length cq, .string tb]) 2 (10 * d + 1) ((zb : Int) : Rat) rs) := hid ⟨aq, gq, 0, cq, by rw [← HTB.out], hcq, hqe, HRD.out.good, by
               rw [← HZB.out, ← HZR.out]
               exact rs_div HZP.out HGP.out _ HDZ.out⟩
              have s0 := aa HP3.out.hn 0;have s1 := aa HP3.out.hn 1;have s2' := aa HP3.out.hn 2;have s3' := aa HP3.out.hn 3;have s4 := aa HP3.out.hn 4;have y0 := aa HP3.out.pg.pm.pd.r 0;have y1 := aa HP3.out.pg.pm.pd.r 1;have y2 := aa HP3.out.pg.pm.pd.r 2;have y3 := aa HP3.out.pg.pm.pd.r 3;have y4 := aa HP3.out.pg.pm.pd.r 4;have fr := fun i => ah HP3.out.pg.pm.pd.r i
              have HDF : Hid (DF r m p cs r ((zb : Int) : Rat) (fun n => ((rsD (ar p.den cs) zm (cof cs n) / zg : Int) : Rat)) tv) := hid ⟨ar p.den cs, zm, zg, rfl, by rw [← HZM.out, ← HZD.out], HZG.out.symm, .inr (.inr ⟨by rw [HZR.out, HZE.out]; exact HZ0.out, by rw [HZV.out]; exact HZ1.out, rfl, by rw [HZR.out, HZB.out], rfl, by rw [HZV.out]; exact HTV.out.symm⟩)⟩
              have HEQ : Hid (∀ n, cof rs n = ((rsD (ar p.den cs) zm (cof cs n) / zg : Int) : Rat)) := hid fun n => by
               have := HRD.out.eq n;rwa [hall] at this
              clear hcq hqe hall
              go_wp2_with fail
              exact end_con rfl rfl rfl (az HP3.out.pg.pm.pd.r _ _ _ _ _) (HPOST.out _ _ _ _ _ _ HDF.out ⟨rs, aq, rs.length, cq, tb, rfl, HLV.out.but HP3.out.pg.pm.pd.r (by decide) (fun g hg => aN _ _ _ _ _ hg), HEQ.out, ax HP3.out.pg.pm.pd.bel (by omega) _ _ _ _ _⟩)
       · have HZ0 := hid hz;rw [decide_eq_false hz];clear hz
         go_wp2_with fail
         refine (constant_any _ 2 _).mono ?_;rintro e w7 ⟨rfl, hb⟩;replace HPG := hid (HPG.out.far hb);clear hb;have y0 := aa HPG.out.pm.pd.r 0;have y1 := aa HPG.out.pm.pd.r 1;have y2 := aa HPG.out.pm.pd.r 2;have y3 := aa HPG.out.pm.pd.r 3;have y4 := aa HPG.out.pm.pd.r 4;have fr := fun i => ah HPG.out.pm.pd.r i
         have HDF : Hid (DF r m p cs (if r = 4 then 2 else 1) 0 (fun _ => 0) ⟨#[]⟩) := hid ⟨ar p.den cs, zm, zg, rfl, by rw [← HZM.out, ← HZD.out], HZG.out.symm, .inl ⟨by rw [HZR.out, HZE.out]; exact HZ0.out, rfl, rfl, rfl, rfl⟩⟩
         have hrr : (if (!r == 4) = true then (1 : Int) else 2) = (if r = 4 then 2 else 1) := by
          by_cases h4 : r = 4
          · subst h4; rfl
          · simp [h4]
         rw [hrr];generalize (if r = 4 then (2 : Int) else 1) = rr at *
         go_wp2_with fail
         exact end_con rfl rfl rfl (az HPG.out.pm.pd.r _ _ _ _ _) (HPOST.out _ _ _ _ _ _ HDF.out ⟨[], none, 0, 0, _, rfl, nilLV _ 2 _, fun _ => rfl, ax HPG.out.pm.pd.bel (by omega) _ _ _ _ _⟩)
end
end Go.Proofs.YteoklapcifonaaaGreatDoor

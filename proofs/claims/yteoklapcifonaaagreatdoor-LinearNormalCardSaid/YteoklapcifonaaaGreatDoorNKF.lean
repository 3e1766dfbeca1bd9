/- The reference's divisibility. -/
import Derived.Test.YteoklapcifonaaaGreatDoorNKE
open Go.Lib (hid)
namespace Go.Proofs.YteoklapcifonaaaGreatDoor
open Go.RowKit Nmx
section
set_option maxRecDepth 100000
set_option maxHeartbeats 16000000
theorem divisibility_any [Nms] {d : Nat} {w : World} {r m : Int} {a1 : Option Addr} {n1 c1 : Nat} {t1 : ByteArray} {p : Rat} {cs : List (List UInt8 × Rat)} (h : LVi w (.agg #[.int .i64 2, .slice a1 n1 c1, .string t1]) 2 d p cs) (hr : r = 4 ∨ r = 5) (hm : 1 ≤ m) (hmd : DS d (m : Rat)) (hd : d ≤ 60) :
    Calls Tryz.prog 76 #[.agg #[.int .i64 r, .int .i64 2, .slice a1 n1 c1, .string t1, .string (TX (m : Rat))]] w fun e w' => ∃ r' c' f' tm', DF r m p cs r' c' f' tm' ∧ GetsD r' tm' (20 * d + 4) c' f' w e w' := by
 have h0 := h;obtain ⟨a1', g, off, c1', he, hC, -, hg, dp⟩ := h;injection he with he;injection he with he;injection he with _ he;injection he with he1 he;injection he with he2 he;injection he1 with e1 e2 e3;injection he2 with e4;subst e1 e3 e2 e4;clear he;have hcl := can_len8 hg;have hDS := denLp_ds dp hg.ds hcl
 have hdd : ∀ k (hk : k < cs.length), DS (d + 1) ((cs[k].2.den : Nat) : Rat) := fun k hk => by
  have := (hg.ds _ (List.getElem_mem hk)).den;rwa [Rat.intCast_natCast] at this
 have hden : ∀ k (hk : k < cs.length) W, Calls Tryz.prog 79 #[.string (TX cs[k].2)] W (aT ((cs[k].2.den : Nat) : Rat) W) := fun k hk W => refDenT (hg.ds _ (List.getElem_mem hk)) (by omega) W
 have hdp : ∀ W, Calls Tryz.prog 79 #[.string (TX p)] W (aT ((ar p.den (cs.take 0) : Nat) : Rat) W) := fun W => refDenT dp (by omega) W
 have hlcm : ∀ k (hk : k < cs.length) W, Calls Tryz.prog 78 #[.string (TX ((ar p.den (cs.take k) : Nat) : Rat)), .string (TX ((cs[k].2.den : Nat) : Rat))] W (aT ((ar p.den (cs.take (k + 1)) : Nat) : Rat) W) := fun k hk W => by
  rw [List.take_succ_eq_append_getElem hk, denL_snoc];exact refLcmI (hDS k) (hdd k hk) (by omega) (by omega) (denL_pos _ _ (Nat.pos_of_ne_zero p.den_nz)) (Nat.pos_of_ne_zero cs[k].2.den_nz) W
 have hD1 : DS (d * 9 + 1) ((ar p.den cs : Nat) : Rat) := by
  have := hDS cs.length;rwa [List.take_length] at this
 have hDp : 0 < ar p.den cs := denL_pos _ _ (Nat.pos_of_ne_zero p.den_nz);have hdv := denL_dvd cs p.den;obtain ⟨F, hF⟩ : ∃ F, ar p.den cs = F := ⟨_, rfl⟩
 rw [hF] at hD1 hDp hdv;have hF0 : ((F : Nat) : Rat) ≠ 0 := fun e => by have := Rat.natCast_inj.1 (show ((F : Nat) : Rat) = ((0 : Nat) : Rat) from e); omega
 obtain ⟨zM, hzM⟩ : ∃ z : Int, m * (F : Int) = z := ⟨_, rfl⟩
 have hzp : 0 < zM := by rw [← hzM]; exact Int.mul_pos (by omega) (by omega)
 have hzd : DS (10 * d + 1) (zM : Rat) := by
  rw [← hzM, Rat.intCast_mul, Rat.intCast_natCast];exact (hmd.mul hD1).mono (by omega)
 have hmu : ∀ W, Calls Tryz.prog 81 #[.string (TX (m : Rat)), .string (TX ((F : Nat) : Rat))] W (aT (zM : Rat) W) := fun W => by
  have := refMulT hmd hD1 (by omega) (by omega) W;rwa [← Rat.intCast_natCast, ← Rat.intCast_mul, hzM] at this
 have htm : ∀ W, Below w.heap.size w W → Calls Tryz.prog 83 #[.agg #[.int .i64 2, .slice a1 cs.length c1, .string (TX p)], .string (TX ((F : Nat) : Rat))] W fun e w' => ∃ v, e = .returned v ∧ LV w' v 2 (10 * d + 1) ((F : Nat) * p) (scl ((F : Nat) : Rat) cs) ∧ Below W.heap.size W w' := fun W hW =>
  (timesR (h0.far hW) hD1 (by omega) (by omega)).mono fun e w' ⟨rs, v, h1, h2, h3, h4⟩ => by
    have hc : Can ltB rs := h2.good.1.can;have hrs : rs = scl ((F : Nat) : Rat) cs := can_ext ord_ltB _ _ hc (scl_cann hF0 hg.can) fun n => by rw [h3, scl_coff]
    exact ⟨v, h1, by rw [← hrs]; exact h2.mono (by omega), h4⟩
 have hip : (F : Nat) * p = (((p * ((F : Nat) : Rat)).num : Int) : Rat) := by rw [Rat.mul_comm]; exact rat_int (mul_den_int hdv.1)
 have hic : ∀ k (hk : k < cs.length), ((F : Nat) : Rat) * cs[k].2 = (((cs[k].2 * ((F : Nat) : Rat)).num : Int) : Rat) := fun k hk => by rw [Rat.mul_comm]; exact rat_int (mul_den_int (hdv.2 _ (List.getElem_mem hk)))
 have hrm : ∀ q : Rat, ((F : Nat) : Rat) * q = (((q * ((F : Nat) : Rat)).num : Int) : Rat) → DS d q → ∀ W, Calls Tryz.prog 136 #[.string (TX (((F : Nat) : Rat) * q)), .string (TX (zM : Rat))] W (aT ((rsD F zM q : Int) : Rat) W) := fun q hq hdq W => by
  have h1 := hD1.mul hdq;rw [hq] at h1 ⊢;exact refRemI h1 hzd (by omega) (by omega) (by omega) W
 have hrp := hrm p hip dp;have hrc : ∀ k (hk : k < cs.length) W, Calls Tryz.prog 136 #[.string (TX (((F : Nat) : Rat) * cs[k].2)), .string (TX (zM : Rat))] W (aT ((rsD F zM cs[k].2 : Int) : Rat) W) := fun k hk => hrm _ (hic k hk) (hg.ds _ (List.getElem_mem hk))
 have hrd : ∀ q, DS (10 * d + 1) ((rsD F zM q : Int) : Rat) := fun q => rs_ds hzp q hzd
 have hzn : ((zM.natAbs : Nat) : Int) = zM := by omega
 have hgp : ∀ k, 0 < gcdL F zM zM.natAbs (cs.take k) := fun k => gcdL_pos _ _ (by omega)
 have hgd : ∀ k, DS (10 * d + 1) ((gcdL F zM zM.natAbs (cs.take k) : Nat) : Rat) := fun k => ds_nat (by
  have h1 := Nat.le_of_dvd (by omega) (gcdL_dvd (F := F) (zM := zM) (cs.take k) zM.natAbs).1;have h2 := hzd.1;rw [Rat.num_intCast] at h2
  omega)
 have hgc : ∀ k (hk : k < cs.length) W, Calls Tryz.prog 80 #[.string (TX ((gcdL F zM zM.natAbs (cs.take k) : Nat) : Rat)), .string (TX ((rsD F zM cs[k].2 : Int) : Rat))] W (aT ((gcdL F zM zM.natAbs (cs.take (k + 1)) : Nat) : Rat) W) := fun k hk W => by
  have h1 := hgd k;rw [← Rat.intCast_natCast] at h1;have := refGcdI h1 (hrd cs[k].2) (by omega) (by omega) W;rw [Rat.intCast_natCast] at this;rw [List.take_succ_eq_append_getElem hk, gcdL_snoc, ← Rat.intCast_natCast (Nat.gcd _ _)];exact this
 have hg0 : ∀ k (hk : k < cs.length), rsD F zM cs[k].2 = 0 → gcdL F zM zM.natAbs (cs.take (k + 1)) = gcdL F zM zM.natAbs (cs.take k) := fun k hk hz => by
  rw [List.take_succ_eq_append_getElem hk, gcdL_snoc, hz];exact Nat.gcd_zero_right _
 have hlst : ∀ k, k = cs.length → cs.take k = cs := fun k hk => by rw [hk]; exact List.take_length
 have hle := hC.le;have hmost := hC.most;obtain ⟨n1, hn1⟩ : ∃ n, cs.length = n := ⟨_, rfl⟩
 have HN := hid hn1;obtain ⟨yb, hyb⟩ : ∃ b, (r == 4) = b := ⟨_, rfl⟩
 have hyd : decide (r = 4) = yb := by rw [← hyb, Bool.eq_iff_iff]; simp
 have HYB := hid hyb;rw [hn1] at htm hle ⊢;obtain ⟨tp, htp⟩ : ∃ t, TX p = t := ⟨_, rfl⟩
 obtain ⟨tm, htm2⟩ : ∃ t, TX (m : Rat) = t := ⟨_, rfl⟩
 rw [htp] at htm hdp ⊢;rw [htm2] at hmu ⊢;obtain ⟨m1, m2, mb⟩ := newL2 w (.cells #[.int .i64 r, .int .i64 2, .slice a1 n1 c1, .string tp, .string tm] 39) (.cells #[.int .i64 0, .int .i64 0, .slice none 0 0, .string ⟨#[]⟩, .string ⟨#[]⟩] 39);have HK := hid (⟨m1, m2, mb⟩ : NBD w _ r a1 n1 c1 tp tm);have HF := hid hF;have HZM := hid hzM;have HZP := hid hzp;have HC := hid hC;have HG := hid hg;have HDEN := hid hden;have HDP := hid hdp;have HLCM := hid hlcm;have HMU := hid hmu;have HTM := hid htm;have HRP := hid hrp;have HRC := hid hrc;have HRD := hid hrd;have HGC := hid hgc;have HG0 := hid hg0;have HGP := hid hgp;have HGD := hid hgd;have HL := hid hlst;have HZD := hid hzd;have HZN := hid hzn;have HCL := hid hcl;have HR := hid hr;clear m1 m2 mb hF hzM hzp hC hg hden hdp hlcm hmu htm hrp hrc hrd hgc hg0 hgp hgd hlst hzd hzn hcl hn1 htp htm2 h0 hDS hdd hD1 hDp hdv hF0 hip hic hrm dp hmd hm hr
 go_enter Tryz.func76, Tryz.ntmps76
 go_wp2_with fail
 generalize (w.alloc (.cells #[.int .i64 r, .int .i64 2, .slice a1 n1 c1, .string tp, .string tm] 39)).alloc (.cells #[.int .i64 0, .int .i64 0, .slice none 0 0, .string ⟨#[]⟩, .string ⟨#[]⟩] 39) = w1 at *;have hdp := HDP.out;unfold aT at hdp;obtain ⟨td0, htd0⟩ : ∃ t, TX ((ar p.den (cs.take 0) : Nat) : Rat) = t := ⟨_, rfl⟩
 rw [htd0] at hdp;have HTD0 := hid htd0;replace HDP := hid hdp;clear hdp htd0;refine (HDP.out w1).mono ?_;rintro e w2 ⟨rfl, hb⟩;replace HK := hid (HK.out.far hb);clear hb hyb hyd HDP
 go_wp2_with fail
 go_loopg [4, 5] n1 (fun gh v4 v5 wr => ∃ k : Nat, gh = n1 - k ∧ k ≤ n1 ∧ v5 = .int .i64 k ∧ v4 = .string (TX ((ar p.den (cs.take k) : Nat) : Rat)) ∧ NBD w wr r a1 n1 c1 tp tm)
 case atStart => exact ⟨0, rfl, Nat.zero_le _, rfl, by rw [HTD0.out], HK.out⟩
 case round =>
  obtain ⟨k, rfl, hk, rfl, rfl, hx⟩ := hrel;replace HK := hid hx;clear hx;have p2 := aa HK.out.a 2;have hk0 : (0 : Int) ≤ (k : Int) := by omega
  by_cases hlt : k < n1
  · have hlti : (k : Int) < (n1 : Int) := by omega
    have hl : k < cs.length := by rw [HN.out]; exact hlt
    have had := HC.out.ad (by omega);subst had;have c2 := (HC.out.far HK.out.bel).nu k hl;have h1 := HDEN.out k hl;have h2 := HLCM.out k hl;unfold aT at h1 h2;obtain ⟨tq, htq⟩ : ∃ t, TX (cs[k]'hl).2 = t := ⟨_, rfl⟩
    rw [htq] at c2 h1;obtain ⟨td, htd⟩ : ∃ t, TX (((cs[k]'hl).2.den : Nat) : Rat) = t := ⟨_, rfl⟩
    rw [htd] at h1 h2;obtain ⟨te, hte⟩ : ∃ t, TX ((ar p.den (cs.take (k + 1)) : Nat) : Rat) = t := ⟨_, rfl⟩
    rw [hte] at h2;have HTE := hid hte;have H1 := hid h1;have H2 := hid h2;clear h1 h2 htq htd hte hl;generalize TX ((ar p.den (cs.take k) : Nat) : Rat) = tl at *
    go_wp2_with fail
    refine (H1.out wr).mono ?_;rintro e w5 ⟨rfl, hb⟩;replace HK := hid (HK.out.far hb);clear hb p2 c2
    go_wp2_with fail
    refine (H2.out w5).mono ?_;rintro e w6 ⟨rfl, hb⟩;replace HK := hid (HK.out.far hb);clear hb
    go_wp2_with fail
    go_roundg (n1 - (k + 1))
    case rel => exact ⟨k + 1, rfl, by omega, by go_num, by rw [HTE.out], HK.out⟩
    case measure => omega
  obtain rfl : k = n1 := by omega
  have hlti : ¬ ((k : Int) < (k : Int)) := by omega
  rw [HL.out k HN.out.symm, HF.out];obtain ⟨tF, htF⟩ : ∃ t, TX ((F : Nat) : Rat) = t := ⟨_, rfl⟩
  rw [htF];have hmu := HMU.out;have htm := HTM.out;unfold aT at hmu;rw [htF] at hmu htm;obtain ⟨tz, htz⟩ : ∃ t, TX (zM : Rat) = t := ⟨_, rfl⟩
  have HTZ := hid htz;rw [htz] at hmu;have HMU2 := hid hmu;have HTM2 := hid htm;clear hmu htm htF htz HMU HTM HDEN HLCM HTD0
  go_wp2_with fail
  clear p2 hlti hlt hk0 hk;refine aF [[], [0], [], [0, 1, 2], [], [4], [], [0, 1, 2, 3, 4, 5, 6], [], [0, 1, 2, 3, 4, 5, 6, 7, 8], [0, 1, 2, 3, 4, 5, 6, 7, 8, 9]] (fun W => NBD w W r a1 k c1 tp tm) (fun _ => True) ?_
  iterate 3
   apply aM
   · intro x; go_simp; done
   · intro x W R hW hF hR;have p1 := aa hW.a 1;have p2 := aa hW.a 2;have p3 := aa hW.a 3;clear hF;unfold ag
     go_simp
     simp only [ac];exact hR _ (Below.refl _ _)
   simp only [Act.put, List.setIfInBounds_toArray, List.set_cons_zero, List.set_cons_succ]
  refine ba (fun v W => LV W v 2 (10 * d + 1) ((F : Nat) * p) (scl ((F : Nat) : Rat) cs)) (fun _ _ _ h hb => h.far hb) ?_ ?_ ?_
  · intro x; go_simp; done
  · intro x W R hW hF hR;clear hF;unfold ag
    go_simp
    simp only [ac];refine (HTM2.out W hW.bel).mono ?_;rintro e w' ⟨v, rfl, hv, hb⟩;exact ⟨v, rfl, hR _ _ hv hb⟩
  simp only [Act.put, List.setIfInBounds_toArray, List.set_cons_zero, List.set_cons_succ, List.length_cons, List.length_nil, Nat.zero_add, Nat.reduceAdd]
  iterate 3
   apply aM
   · intro x; go_simp; done
   · intro x W R hW hF hR;have p4 := aa hW.a 4;clear hF;unfold ag
     go_simp
     simp only [ac];exact hR _ (Below.refl _ _)
   simp only [Act.put, List.setIfInBounds_toArray, List.set_cons_zero, List.set_cons_succ]
  apply aM
  · intro x; go_simp; done
  · intro x W R hW hF hR;clear hF;unfold ag
    go_simp
    simp only [ac];refine (HMU2.out W).mono ?_;rintro e w' ⟨rfl, hb⟩;exact ⟨_, rfl, hR _ hb⟩
  simp only [Act.put, List.setIfInBounds_toArray, List.set_cons_zero, List.set_cons_succ];refine a_new (fun B W => w.heap.size + 1 < B ∧ W.heap[B]? = some (.cells #[.int .i64 0, .slice none 0 0, .string ⟨#[]⟩] 26 (0, 0))) (fun _ _ _ h hb => ⟨h.1, (hb.block _ (ab h.2)).trans h.2⟩) ?_ ?_ ?_
  · intro x; go_simp; done
  · intro x W R hW hF hR;clear hF;unfold ag
    go_simp
    simp only [ac];exact hR _ ⟨ab hW.r, heap_alloc_new _ _⟩ ((Below.refl _ _).alloc (Nat.le_refl _) _) (by simp)
  simp only [Act.put, List.setIfInBounds_toArray, List.set_cons_zero, List.set_cons_succ, List.length_cons, List.length_nil, Nat.zero_add, Nat.reduceAdd];refine a_wrt (fun x W => ∃ L al gl ol cl, x 8 = .pointer (some ⟨L, 0, none⟩) ∧ NBL w W L r a1 k c1 tp tm al gl ol k cl (TX ((F : Nat) * p)) (scl ((F : Nat) : Rat) cs) ∧ (scl ((F : Nat) : Rat) cs ≠ [] → gl < W.heap.size)) (fun _ _ _ h hb => let ⟨L, al, gl, ol, cl, h1, h2, h3⟩ := h; ⟨L, al, gl, ol, cl, h1, h2.far hb, fun hn => Nat.lt_of_lt_of_le (h3 hn) hb.size⟩) (fun x x' w hx hT => let ⟨L, al, gl, ol, cl, h1, h⟩ := hT; ⟨L, al, gl, ol, cl, (hx 8 (.inr (List.contains_iff_mem.1 rfl))).symm.trans h1, h⟩) ?_ ?_ ?_
  · intro x; go_simp; done
  · intro x W R hW hF hD hR;have hb := hF.1.2 rfl rfl rfl;have hu := hF.2.2.2.2.2.1.2 rfl rfl rfl;simp only [AK.fact] at hb hu;obtain ⟨S, hx8, hl, hS⟩ := hb;obtain ⟨al, gl, ol, cl, hx3, hcs, hty, -, -⟩ := hu;rw [scl_len, HN.out] at hx3;simp only [hx8, hx3];have e0 := aa hS 0;have e1 := aa hS 1;have e2 := aa hS 2;have fr := fun i => ah hS i
    clear hF hD;unfold ag
    go_simp
    simp only [ac];have ho : ∀ g, g ≠ S → (((W.setCell ⟨S, 0, none⟩ (.int .i64 2)).setCell ⟨S, 1, none⟩ (.slice al k cl)).setCell ⟨S, 2, none⟩ (.string (TX ((F : Nat) * p)))).heap[g]? = W.heap[g]? := fun g hg => aj _ _ _ hg
    have hbl := ((hW.bel.setCell (show w.heap.size ≤ S by omega) (p := ⟨S, 0, none⟩) (.int .i64 2)).setCell (p := ⟨S, 1, none⟩) (show w.heap.size ≤ S by omega) (.slice al k cl)).setCell (p := ⟨S, 2, none⟩) (show w.heap.size ≤ S by omega) (.string (TX ((F : Nat) * p)));obtain ⟨hc2, -⟩ := csl_but hcs hty hS (by decide) ho;refine hR _ _ ⟨S, al, gl, ol, cl, (aJ (i := 9) (j := 8) _ _ (by decide)).trans hx8, ⟨⟨(ho _ (by omega)).trans hW.a, (ho _ (by omega)).trans hW.r, hbl⟩, aU hS, hc2, hl⟩, fun hn => ?_⟩ trivial (by simp [World.setCell]);rcases hty with h | ⟨cur, fr', h⟩
    · exact absurd h hn
    · have := ab h
      simpa [World.setCell] using this
  simp only [Act.put];apply a_late
  · intro x; go_simp; done
  · intro x W R hW hF hR;clear hF hW;unfold ag
    go_simp
    simp only [ac];exact hR _ (Below.refl _ _)
  simp only [Act.put, List.setIfInBounds_toArray, List.set_cons_zero, List.set_cons_succ];refine a_nil (by kernel_rfl) (by kernel_rfl) (by kernel_rfl) (fun _ _ h hb => h.far hb) (fun _ _ _ _ => trivial) (fun _ _ => trivial) (HK.out.far (Below.refl _ _).drew) ?_;intro x W hE hW hF hD;clear hD;obtain ⟨L, al, gl, ol, cl, hx8, hnl, hgl⟩ := hF.2.1.2 rfl;simp only [hx8];have HK2 := hid hnl;have HGL := hid hgl;clear hF hW hnl hgl hx8 HK HTM2 HMU2 hE;have hrp := HRP.out;have hrc := HRC.out;unfold aT at hrp hrc;rw [HTZ.out] at hrp;have hrc : ∀ (k : Nat) (hk : k < cs.length) W, Calls Tryz.prog 136 #[.string (TX (((F : Nat) : Rat) * cs[k].2)), .string tz] W fun e w' => e = .returned (.string (TX ((rsD F zM cs[k].2 : Int) : Rat))) ∧ Below W.heap.size W w' := fun k hk W => by rw [← HTZ.out]; exact hrc k hk W
  obtain ⟨tl, htl⟩ : ∃ t, TX (((F : Nat) : Rat) * p) = t := ⟨_, rfl⟩
  rw [htl] at hrp HK2;obtain ⟨tc, htc⟩ : ∃ t, TX ((rsD F zM p : Int) : Rat) = t := ⟨_, rfl⟩
  have HTC := hid htc;rw [htc] at hrp;replace HRP := hid hrp;replace HRC := hid hrc;clear hrp hrc htl htc;have p2 := aa HK2.out.l 2
  go_wp2_with fail
  refine (HRP.out W).mono ?_;rintro e w4 ⟨rfl, hb⟩;replace HGL : Hid (scl ((F : Nat) : Rat) cs ≠ [] → gl < w4.heap.size) := hid fun hn => Nat.lt_of_lt_of_le (HGL.out hn) hb.size
  replace HK2 := hid (HK2.out.far hb);clear hb p2 HRP
  go_wp2_with fail
  refine (refConstant_any 2 tc w4).mono ?_;rintro e w5 ⟨rfl, hb⟩;replace HGL : Hid (scl ((F : Nat) : Rat) cs ≠ [] → gl < w5.heap.size) := hid fun hn => Nat.lt_of_lt_of_le (HGL.out hn) hb.size
  replace HK2 := hid (HK2.out.far hb);clear hb
  have hD0 : DL w (w5.alloc (.cells #[.int .i64 2, .slice none 0 0, .string tc] 26)) L w5.heap.size r a1 k c1 tp tm al gl ol k cl tl tc (.slice none 0 0) (.slice none 0 0) (scl ((F : Nat) : Rat) cs) [] :=
   ⟨HK2.out.far ((Below.refl _ _).alloc (Nat.le_refl _) _), HGL.out, heap_alloc_new _ _, World.ownsRow_nil _ _ _ _, ab HK2.out.l⟩
  have HD0 := hid hD0;clear hD0 HK2 HGL
  go_upto_block 1 with fail
  generalize w5.alloc (.cells #[.int .i64 2, .slice none 0 0, .string tc] 26) = w6 at *;generalize w5.heap.size = S at *
  have htz0 : tz = TX ((gcdL F zM zM.natAbs (cs.take 0) : Nat) : Rat) := by
   rw [← HTZ.out];show TX _ = TX (((zM.natAbs : Nat)) : Rat);rw [← Rat.intCast_natCast, HZN.out]
  have HTZ0 := hid htz0;clear htz0
  go_loopg [8, 10] k (fun gh v8 v10 wr => ∃ (j : Nat) (v : Value) (rs : List (List UInt8 × Rat)), gh = k - j ∧ j ≤ k ∧ v10 = .int .i64 j ∧ v8 = .string (TX ((gcdL F zM zM.natAbs (cs.take j) : Nat) : Rat)) ∧ DL w wr L S r a1 k c1 tp tm al gl ol k cl tl tc v v (scl ((F : Nat) : Rat) cs) rs ∧ RD F zM 1 (10 * d + 1) cs rs j)
  case atStart => exact ⟨0, _, _, rfl, Nat.zero_le _, rfl, by rw [← HTZ0.out], HD0.out, RD.start _ _ _ _ _⟩
  case round =>
   obtain ⟨j, v, rs, rfl, hj, rfl, rfl, hx, hrd⟩ := hrel;have HD := hid hx;have HRR := hid hrd;clear hx hrd HD0;have q1 := aa HD.out.n.l 1;have hj0 : (0 : Int) ≤ (j : Int) := by omega
   by_cases hlt : j < k
   · have hlti : (j : Int) < (k : Int) := by omega
     have hl : j < cs.length := by rw [HN.out]; exact hlt
     have hls : j < (scl ((F : Nat) : Rat) cs).length := by rw [scl_len]; exact hl
     have had := HD.out.n.lc.ad (by have := HD.out.n.lc.le; omega);subst had;have c1' := HD.out.n.lc.nm j hls;have c2 := HD.out.n.lc.nu j hls;rw [scl_at _ _ _ hl] at c1' c2
     dsimp only at c1' c2
     have h1 := HRC.out j hl;have h2 := HGC.out j hl;have h3 := HG0.out j hl;have hst0 := fun q hq hd' => HRR.out.step HG.out hl (q := q) hq hd'
     unfold aT at h2;obtain ⟨zq, hzq⟩ : ∃ z : Int, rsD F zM (cs[j]'hl).2 = z := ⟨_, rfl⟩
     have hdq : DS (10 * d + 1) (zq : Rat) := by rw [← hzq]; exact HRD.out _
     rw [hzq] at h1 h2 h3;have hst := hst0 zq (by rw [hzq, Int.ediv_one]) hdq;have htz := bg (zq : Rat);rw [Rat.num_intCast] at htz;obtain ⟨tq, htq⟩ : ∃ t, TX (((F : Nat) : Rat) * (cs[j]'hl).2) = t := ⟨_, rfl⟩
     rw [htq] at c2 h1;obtain ⟨tr, htr⟩ : ∃ t, TX (zq : Rat) = t := ⟨_, rfl⟩
     rw [htr] at h1 h2 htz;obtain ⟨tn, htn⟩ : ∃ t : ByteArray, (⟨(cs[j]'hl).1.toArray⟩ : ByteArray) = t := ⟨_, rfl⟩
     rw [htn] at c1';obtain ⟨nm, hnm⟩ : ∃ n, (cs[j]'hl).1 = n := ⟨_, rfl⟩
     rw [hnm] at hst htn;obtain ⟨te, hte⟩ : ∃ t, TX ((gcdL F zM zM.natAbs (cs.take (j + 1)) : Nat) : Rat) = t := ⟨_, rfl⟩
     rw [hte] at h2;have HCN : Hid (∀ hl : j < cs.length, (cs[j]'hl).1 = nm) := hid fun _ => hnm
     have HTE := hid hte;have HTR := hid htr;have HTN := hid htn;have H1 := hid h1;have H2 := hid h2;have H3 := hid h3;have HST := hid hst;have HRL : Hid (rs.length ≤ 8) := hid (can_len8 HRR.out.good);clear hst0 h1 h2 h3 hst htq htr htn hte hl hls hdq hzq hnm
     by_cases h0 : zq = 0
     · have hte2 : TX ((gcdL F zM zM.natAbs (cs.take j) : Nat) : Rat) = te := by rw [← H3.out h0]; exact HTE.out
       have hst := HST.out;rw [if_pos h0] at hst;replace HST := hid hst;rw [decide_eq_true h0] at htz;rw [hte2];clear hte2 hst h0
       go_wp2_with fail
       refine (H1.out wr).mono ?_;rintro e w7 ⟨rfl, hb⟩;replace HD := hid (HD.out.far hb);clear hb c1' c2 q1
       go_wp2_with fail
       go_roundg (k - (j + 1))
       case rel => exact ⟨j + 1, _, _, rfl, by omega, by go_num, by rw [HTE.out], HD.out, HST.out⟩
       case measure => omega
     · have hst := HST.out;rw [if_neg h0] at hst;replace HST := hid hst;rw [decide_eq_false h0] at htz;generalize TX ((gcdL F zM zM.natAbs (cs.take j) : Nat) : Rat) = tg at *;clear hst h0
       go_wp2_with fail
       refine (H1.out wr).mono ?_;rintro e w7 ⟨rfl, hb⟩;replace HD := hid (HD.out.far hb);clear hb c1' c2 q1;obtain ⟨i0, hi0', hz0, hz1, hz2⟩ := info_parts infoCoef
       go_upto_region 15 with fail
       have hnmt : (⟨nm.toArray⟩ : ByteArray) = tn := HTN.out;have HNM := hid hnmt;clear hnmt
       have c1s : ∀ W, Below w7.heap.size w7 W → W.cell? ⟨gl, ol + j * 2, none⟩ = some (.string tn) := fun W hW => by
        have hl : j < cs.length := by rw [HN.out]; exact hlt
        have := (HD.out.n.lc.far hW).nm j (by rw [scl_len]; exact hl);rw [scl_at _ _ _ hl] at this
        dsimp only at this
        rw [HCN.out hl, HTN.out] at this;exact this
       refine aF [[], [0], [], [2], [], [2, 3, 4], [2, 3, 4, 5], [2, 3, 4, 5, 6], [], [2, 3, 4, 5, 6, 7, 8], [2, 3, 4, 5, 6, 7, 8, 9], [0, 1, 2, 3, 4, 5, 6, 7, 8, 9, 10], [0, 1, 2, 3, 4, 5, 6, 7, 8, 9, 10, 11], [0, 1, 2, 3, 4, 5, 6, 7, 8, 9, 10, 11, 12]] (fun W => DL w W L S r a1 k c1 tp tm (some ⟨gl, ol, none⟩) gl ol k cl tl tc v v (scl ((F : Nat) : Rat) cs) rs ∧ Below w7.heap.size w7 W) (fun _ => True) ?_
       iterate 10
        apply aM
        · intro x; go_simp; done
        · intro x W R hW hF hR;have s1 := aa hW.1.hs 1;have q1 := aa hW.1.n.l 1;have z0 := c1s W hW.2;clear hF;unfold ag
          go_simp
          simp only [ac];exact hR _ (Below.refl _ _)
        simp only [Act.put, List.setIfInBounds_toArray, List.set_cons_zero, List.set_cons_succ]
       refine ba (fun u W => ∃ B, u = .slice (some ⟨B, 0, none⟩) 1 1 ∧ W.heap[B]? = some (.cells #[.string tn, .string tr] 79 (0, 0))) (fun _ _ _ h hb => let ⟨B, h1, h2⟩ := h; ⟨B, h1, (hb.block _ (ab h2)).trans h2⟩) ?_ ?_ ?_
       · intro x; go_simp; done
       · intro x W R hW hF hR;clear hF;unfold ag
         go_simp
         simp only [ac];exact hR _ _ ⟨W.heap.size, rfl, heap_alloc_new _ _⟩ ((Below.refl _ _).alloc (Nat.le_refl _) _)
       simp only [Act.put, List.setIfInBounds_toArray, List.set_cons_zero, List.set_cons_succ, List.length_cons, List.length_nil, Nat.zero_add, Nat.reduceAdd];refine a_wrt (fun x W => DL w W L S r a1 k c1 tp tm (some ⟨gl, ol, none⟩) gl ol k cl tl tc v (x 11) (scl ((F : Nat) : Rat) cs) (rs ++ [(nm, (zq : Rat))])) (fun _ _ _ h hb => h.far hb) (fun x x' w h hT => by have e := h 11 (.inl rfl); rw [e] at hT; exact hT) ?_ ?_ ?_
       · intro x; go_simp; done
       · intro x W R hW hF hD hR;obtain ⟨B, hx, hB⟩ := hF.1.2 rfl rfl rfl;clear hF;simp only [hx];have hrl := HRL.out;refine addAt_append (.tmp 69) (.tmp 78) 24 rfl (S + 1) 79 i0 _ 2 32 Tryz.underlying24 hi0' hz0 hz1 hz2 rfl (by decide) v rs.length (flat rs) rfl hW.1.row ⟨B, 0, none⟩ 1 1 [.string tn, .string tr] rfl rfl (World.news_of_block (cs := #[.string tn, .string tr]) hB) (by simp [Value.oneCell']) (by unfold maxLen; omega) (by omega) (ab hW.1.hs) ?_;intro v' w' hrow hg;refine hR _ _ ?_ trivial hg.size;show DL w w' L S r a1 k c1 tp tm (some ⟨gl, ol, none⟩) gl ol k cl tl tc v (updX x 11 v' 11) (scl ((F : Nat) : Rat) cs) (rs ++ [(nm, (zq : Rat))]);rw [bk];refine hW.1.grow (x := (nm, (zq : Rat))) hg ?_;rw [HNM.out, HTR.out];exact hrow
       simp only [Act.put, List.setIfInBounds_toArray, List.set_cons_zero, List.set_cons_succ, List.length_cons, List.length_nil, Nat.zero_add, Nat.reduceAdd];apply a_late
       · intro x; go_simp; done
       · intro x W R hW hF hR;clear hF hW;unfold ag
         go_simp
         simp only [ac];exact hR _ (Below.refl _ _)
       simp only [Act.put, List.setIfInBounds_toArray, List.set_cons_zero, List.set_cons_succ];refine a_wrt2 (fun x W => DL w W L S r a1 k c1 tp tm (some ⟨gl, ol, none⟩) gl ol k cl tl tc (x 11) (x 11) (scl ((F : Nat) : Rat) cs) (rs ++ [(nm, (zq : Rat))])) (fun _ _ _ h hb => h.far hb) (fun x x' w h hT => by have e := h 11 (.inr (List.contains_iff_mem.1 rfl)); rw [e] at hT; exact hT) ?_ ?_ ?_
       · intro x; go_simp; done
       · intro x W R hW hF hD hR;have hL := hF.2.1.2 rfl rfl rfl;simp only [AK.fact] at hL;obtain ⟨aq, gq, cq, hv, -, -⟩ := csl_of_row hL.row;simp only [hv];rw [hv] at hL;have e0 := aa hL.hs 1;have fr := fun i => ah hL.hs i
         clear hF;unfold ag
         go_simp
         simp only [ac];refine hR _ _ ?_ trivial (by simp [World.setCell]);show DL w _ L S r a1 k c1 tp tm (some ⟨gl, ol, none⟩) gl ol k cl tl tc (updX x 13 _ 11) (updX x 13 _ 11) (scl ((F : Nat) : Rat) cs) (rs ++ [(nm, (zq : Rat))]);rw [aJ (i := 13) (j := 11) _ _ (by decide), hv];have := hL.set;rw [show (rs ++ [(nm, (zq : Rat))]).length = rs.length + 1 by rw [List.length_append]; rfl] at this ⊢;exact this
       simp only [Act.put];refine a_nil (by kernel_rfl) (by kernel_rfl) (by kernel_rfl) (fun _ _ h hb => ⟨h.1.far hb, h.2.trans (hb.mono h.2.size)⟩) (fun _ _ _ _ => trivial) (fun _ _ => trivial) ⟨HD.out.far (Below.refl _ _).drew, (Below.refl _ _).drew⟩ ?_;intro x W hE hW hF hD;clear hD;have hls := hF.1.2 rfl;have HD2 := hid hls;clear hF hW hls c1s hE
       go_wp2_with fail
       refine (H2.out W).mono ?_;rintro e w8 ⟨rfl, hb⟩;replace HD2 := hid (HD2.out.far hb);clear hb
       go_wp2_with fail
       go_roundg (k - (j + 1))
       case rel => exact ⟨j + 1, _, _, rfl, by omega, by go_num, by rw [HTE.out], HD2.out, HST.out⟩
       case measure => omega
   obtain rfl : j = k := by omega
   have hlti : ¬ ((j : Int) < (j : Int)) := by omega
   have hall : cs.take j = cs := HL.out j HN.out.symm;have hrr := HRR.out;have hgp := HGP.out j;have hgd := HGD.out j;have heq := fun n => hrr.eq n
   rw [hall] at hgp hgd heq;rw [hall];obtain ⟨G, hG⟩ : ∃ G, gcdL F zM zM.natAbs cs = G := ⟨_, rfl⟩
   have hgv := gcdL_dvd (F := F) (zM := zM) cs zM.natAbs;rw [hG] at hgp hgd hgv;rw [hG];have hG0 : (G : Int) ≠ 0 := by omega
   have hgz : (G : Int) ∣ zM := by have := Int.natCast_dvd_natCast.2 hgv.1; rwa [HZN.out] at this
   have hgi : DS (10 * d + 1) (((G : Int)) : Rat) := by rw [Rat.intCast_natCast]; exact hgd
   have hnum : (((G : Int)) : Rat).num ≠ 0 := by rw [Rat.num_intCast]; exact hG0
   obtain ⟨tG, htG⟩ : ∃ t, TX ((G : Nat) : Rat) = t := ⟨_, rfl⟩
   have htG2 : TX (((G : Int)) : Rat) = tG := by rw [Rat.intCast_natCast]; exact htG
   have hrem : ∀ W, Calls Tryz.prog 136 #[.string tc, .string tG] W fun e w' => e = .returned (.string (TX ((rsD F zM p % (G : Int) : Int) : Rat))) ∧ Below W.heap.size W w' := fun W => by
    have := refRemI (HRD.out p) hgi (by omega) (by omega) hG0 W;rwa [htG2, HTC.out] at this
   have htz := bg ((rsD F zM p % (G : Int) : Int) : Rat);rw [Rat.num_intCast] at htz
   have hte : (tG.toList == tz.toList) = decide ((G : Int) = zM) := by
    rw [← htG2, ← HTZ.out, tx_eq, Bool.eq_iff_iff, decide_eq_true_eq, decide_eq_true_eq];exact Rat.intCast_inj
   have hdv1 : ∀ W, Calls Tryz.prog 22 #[.string ⟨#[49]⟩, .string tG] W fun e w' => e = .returned (.string (TX (1 / (((G : Int)) : Rat)))) ∧ Below W.heap.size W w' := fun W => by
    have h1 : (⟨#[49]⟩ : ByteArray) = TX 1 := tx_of (by decide +kernel);have := refDivT (DS.one (d := 1) (by decide)) hgi (by omega) (by omega) hnum W;rwa [htG2, ← h1] at this
   have hdv2 : ∀ W, Calls Tryz.prog 22 #[.string tz, .string tG] W fun e w' => e = .returned (.string (TX ((zM / (G : Int) : Int) : Rat))) ∧ Below W.heap.size W w' := fun W => by
    have := refDivT HZD.out hgi (by omega) (by omega) hnum W;rw [htG2, HTZ.out, div_exact2 hG0 hgz] at this;exact this
   have hdg : DS (10 * d + 2) (1 / (((G : Int)) : Rat)) := ((DS.one (d := 1) (by decide)).div hgi hnum).mono (by omega)
   have hDF : ∀ r' c' f' tm', ((rsD F zM p % (G : Int) ≠ 0 ∧ r' = (if r = 4 then 2 else 1) ∧ c' = 0 ∧ (f' = fun _ => 0) ∧ tm' = ⟨#[]⟩) ∨ (rsD F zM p % (G : Int) = 0 ∧ zM / (G : Int) = 1 ∧ r' = (if r = 4 then 1 else 2) ∧ c' = 0 ∧ (f' = fun _ => 0) ∧ tm' = ⟨#[]⟩) ∨
       (rsD F zM p % (G : Int) = 0 ∧ zM / (G : Int) ≠ 1 ∧ r' = r ∧ c' = ((rsD F zM p / (G : Int) : Int) : Rat) ∧ (f' = fun n => ((rsD F zM (cof cs n) / (G : Int) : Int) : Rat)) ∧ tm' = TX ((zM / (G : Int) : Int) : Rat))) → DF r m p cs r' c' f' tm' := fun r' c' f' tm' h =>
    ⟨F, zM, G, HF.out.symm, HZM.out.symm, by rw [hG], h⟩
   have hy1 : (if (!yb) = true then (1 : Int) else 2) = (if r = 4 then 2 else 1) := by
    rw [← HYB.out]
    by_cases h4 : r = 4
    · rw [if_pos h4, h4]; rfl
    · rw [if_neg h4, if_pos (by rw [beq_eq_false_iff_ne.2 h4]; rfl)]
   have hy2 : (if yb = true then (1 : Int) else 2) = (if r = 4 then 1 else 2) := by
    rw [← HYB.out]
    by_cases h4 : r = 4
    · rw [if_pos h4, h4]; rfl
    · rw [if_neg h4, if_neg (by rw [beq_eq_false_iff_ne.2 h4]; exact Bool.false_ne_true)]
   have hfn : ∀ n, (1 / (((G : Int)) : Rat)) * cof rs n = ((rsD F zM (cof cs n) / (G : Int) : Int) : Rat) := fun n => by
    rw [heq n, Int.ediv_one];exact div_exact hG0 (cof_dvd cs hgv.2 n)
   have hgood := hrr.good;rw [htG];have HREM := hid hrem;have HDV1 := hid hdv1;have HDV2 := hid hdv2;have HDG := hid hdg;have HDF := hid hDF;have HY1 := hid hy1;have HY2 := hid hy2;have HFN := hid hfn;have HGO := hid hgood;have HGZ := hid hgz;have HGN := hid hG0;have HTX := hid htz;have HTE := hid hte;clear hall hrr hgp hgd heq hgv hgi hnum htG htG2 hrem htz hte hdv1 hdv2 hdg hDF hy1 hy2 hfn hgood hgz hG0 hG HRR HGP HGD HRC HGC HG0 HTZ0 HYB;obtain ⟨tr, htr⟩ : ∃ t, TX ((rsD F zM p % (G : Int) : Int) : Rat) = t := ⟨_, rfl⟩
   have hrem := HREM.out;have htz := HTX.out;rw [htr] at hrem htz;replace HREM := hid hrem;clear hrem htr HTX;have s2 := aa HD.out.hs 2
   go_wp2_with fail
   refine (HREM.out wr).mono ?_;rintro e w7 ⟨rfl, hb⟩;replace HD := hid (HD.out.far hb);clear hb s2 q1 hlti hlt
   by_cases hz : rsD F zM p % (G : Int) = 0
   rotate_left
   · have HZ := hid hz;rw [decide_eq_false hz] at htz;clear hz
     go_wp2_with fail
     refine (fixed_any (!yb) 2 w7).mono ?_;rintro e w8 ⟨rfl, hb⟩;replace HD := hid (HD.out.far hb);clear hb;rw [HY1.out];obtain ⟨r2, hr2⟩ : ∃ z : Int, (if r = 4 then 2 else 1) = z := ⟨_, rfl⟩
     have HR2 := hid hr2;rw [hr2];clear hr2;have r0 := aa HD.out.n.b.r 0;have r1 := aa HD.out.n.b.r 1;have r2' := aa HD.out.n.b.r 2;have r3 := aa HD.out.n.b.r 3;have r4 := aa HD.out.n.b.r 4;have fr := fun i => ah HD.out.n.b.r i
     go_wp2_with fail
     exact end_con rfl rfl rfl (az HD.out.n.b.r _ _ _ _ _) ⟨r2, 0, _, _, HDF.out _ _ _ _ (.inl ⟨HZ.out, HR2.out.symm, rfl, rfl, rfl⟩), [], none, 0, 0, _, rfl, nilLV _ 2 _, fun _ => rfl, ax HD.out.n.b.bel (by omega) _ _ _ _ _⟩
   have HZ := hid hz;rw [decide_eq_true hz] at htz;clear hz;have hte := HTE.out
   by_cases hq : (G : Int) = zM
   · have hq1 : zM / (G : Int) = 1 := by rw [hq]; exact Int.ediv_self (by have := HZP.out; omega)
     have HQ := hid hq1;rw [decide_eq_true hq] at hte;clear hq hq1
     go_wp2_with fail
     refine (fixed_any yb 2 w7).mono ?_;rintro e w8 ⟨rfl, hb⟩;replace HD := hid (HD.out.far hb);clear hb;rw [HY2.out];obtain ⟨r2, hr2⟩ : ∃ z : Int, (if r = 4 then 1 else 2) = z := ⟨_, rfl⟩
     have HR2 := hid hr2;rw [hr2];clear hr2;have r0 := aa HD.out.n.b.r 0;have r1 := aa HD.out.n.b.r 1;have r2' := aa HD.out.n.b.r 2;have r3 := aa HD.out.n.b.r 3;have r4 := aa HD.out.n.b.r 4;have fr := fun i => ah HD.out.n.b.r i
     go_wp2_with fail
     exact end_con rfl rfl rfl (az HD.out.n.b.r _ _ _ _ _) ⟨r2, 0, _, _, HDF.out _ _ _ _ (.inr (.inl ⟨HZ.out, HQ.out, HR2.out.symm, rfl, rfl, rfl⟩)), [], none, 0, 0, _, rfl, nilLV _ 2 _, fun _ => rfl, ax HD.out.n.b.bel (by omega) _ _ _ _ _⟩
   · have hq1 : zM / (G : Int) ≠ 1 := fun e => hq (by
       have := Int.ediv_mul_cancel HGZ.out;rw [e, Int.one_mul] at this
       exact this)
     have HQ := hid hq1;rw [decide_eq_false hq] at hte;clear hq hq1;obtain ⟨aq, gq, cq, rfl, hcq, -⟩ := csl_of_row2 HD.out.row
     have hlv : ∀ W, Below w7.heap.size w7 W → Calls Tryz.prog 83 #[.agg #[.int .i64 2, .slice aq rs.length cq, .string tc], .string (TX (1 / (((G : Int)) : Rat)))] W (GetsL 2 (20 * d + 4) ((rsD F zM p / (G : Int) : Int) : Rat) (fun n => ((rsD F zM (cof cs n) / (G : Int) : Int) : Rat)) W) := fun W hW => by
      have h1 : LVi W (.agg #[.int .i64 2, .slice aq rs.length cq, .string tc]) 2 (10 * d + 1) ((rsD F zM p : Int) : Rat) rs := ⟨aq, gq, 0, cq, by rw [HTC.out], hcq.far hW, trivial, HGO.out, HRD.out p⟩
      refine (timesR h1 HDG.out (by omega) (by omega)).mono fun e w' ⟨rs', v, h1, h2, h3, h4⟩ => ⟨rs', v, h1, ?_, fun n => ?_, h4⟩
      · rw [div_exact HGN.out (Int.dvd_of_emod_eq_zero HZ.out)] at h2;exact h2.mono (by omega)
      · rw [h3 n]; exact HFN.out n
     have HLV := hid hlv;obtain ⟨nr, hnr⟩ : ∃ n, rs.length = n := ⟨_, rfl⟩
     have hDW : ∀ W, Below w7.heap.size w7 W → (NBD w W r a1 j c1 tp tm ∧ W.heap[S]? = some (.cells #[.int .i64 2, .slice aq nr cq, .string tc] 26 (0, 0))) := fun W hW => ⟨(HD.out.far hW).n.b, by rw [← hnr]; exact (HD.out.far hW).hs⟩
     have HDW := hid hDW;have hbl := HD.out.n.b.bel;have HB7 := hid hbl;rw [hnr] at HLV;obtain ⟨tg1, htg1⟩ : ∃ t, TX (1 / (((G : Int)) : Rat)) = t := ⟨_, rfl⟩
     have hdv1 := HDV1.out;rw [htg1] at hdv1 HLV;replace HDV1 := hid hdv1;obtain ⟨tmo, htmo⟩ : ∃ t, TX ((zM / (G : Int) : Int) : Rat) = t := ⟨_, rfl⟩
     have hdv2 := HDV2.out;rw [htmo] at hdv2;replace HDV2 := hid hdv2;have HTMO := hid htmo;clear hlv hDW hbl htg1 hdv1 htmo hdv2 hcq hnr HD
     go_wp2_with fail
     refine aF [[], [0], [], [], [3], [2, 3, 4], [], [], [2, 3, 4, 5, 6, 7], [0, 1, 2, 3, 4, 5, 6, 7, 8], [0, 1, 2, 3, 4, 5, 6, 7, 8, 9]] (fun W => Below w7.heap.size w7 W) (fun _ => True) ?_
     iterate 4
      apply aM
      · intro x; go_simp; done
      · intro x W R hW hF hR;have p0 := aa (HDW.out W hW).1.a 0;have s0 := aa (HDW.out W hW).2 0;have s1 := aa (HDW.out W hW).2 1;have s2 := aa (HDW.out W hW).2 2;clear hF;unfold ag
        go_simp
        simp only [ac];exact hR _ (Below.refl _ _)
      simp only [Act.put, List.setIfInBounds_toArray, List.set_cons_zero, List.set_cons_succ]
     apply aM
     · intro x; go_simp; done
     · intro x W R hW hF hR;clear hF;unfold ag
       go_simp
       simp only [ac];refine (HDV1.out W).mono ?_;rintro e w' ⟨rfl, hb⟩;exact ⟨_, rfl, hR _ hb⟩
     simp only [Act.put, List.setIfInBounds_toArray, List.set_cons_zero, List.set_cons_succ];refine ba (fun v W => ∃ rs', LV W v 2 (20 * d + 4) ((rsD F zM p / (G : Int) : Int) : Rat) rs' ∧ ∀ n, cof rs' n = ((rsD F zM (cof cs n) / (G : Int) : Int) : Rat)) (fun _ _ _ h hb => let ⟨rs', h1, h2⟩ := h; ⟨rs', h1.far hb, h2⟩) ?_ ?_ ?_
     · intro x; go_simp; done
     · intro x W R hW hF hR;clear hF;unfold ag
       go_simp
       simp only [ac];refine (HLV.out W hW).mono ?_;rintro e w' ⟨rs', v, rfl, hl, hf, hb⟩;exact ⟨v, rfl, hR _ _ ⟨rs', hl, hf⟩ hb⟩
     simp only [Act.put, List.setIfInBounds_toArray, List.set_cons_zero, List.set_cons_succ, List.length_cons, List.length_nil, Nat.zero_add, Nat.reduceAdd]
     iterate 2
      apply aM
      · intro x; go_simp; done
      · intro x W R hW hF hR;clear hF;unfold ag
        go_simp
        simp only [ac];exact hR _ (Below.refl _ _)
      simp only [Act.put, List.setIfInBounds_toArray, List.set_cons_zero, List.set_cons_succ]
     apply aM
     · intro x; go_simp; done
     · intro x W R hW hF hR;clear hF;unfold ag
       go_simp
       simp only [ac];refine (HDV2.out W).mono ?_;rintro e w' ⟨rfl, hb⟩;exact ⟨_, rfl, hR _ hb⟩
     simp only [Act.put, List.setIfInBounds_toArray, List.set_cons_zero, List.set_cons_succ];refine ba (fun v W => ∃ rs' ao n c tx, v = .agg #[.int .i64 r, .int .i64 2, .slice ao n c, .string tx, .string tmo] ∧ LV W (.agg #[.int .i64 2, .slice ao n c, .string tx]) 2 (20 * d + 4) ((rsD F zM p / (G : Int) : Int) : Rat) rs' ∧ ∀ n, cof rs' n = ((rsD F zM (cof cs n) / (G : Int) : Int) : Rat)) (fun _ _ _ h hb => let ⟨rs', ao, n, c, tx, h0, h1, h2⟩ := h; ⟨rs', ao, n, c, tx, h0, h1.far hb, h2⟩) ?_ ?_ ?_
     · intro x; go_simp; done
     · intro x W R hW hF hR;have hu := hF.2.2.2.1.2 rfl rfl rfl;simp only [AK.fact] at hu;obtain ⟨rs', hl, hf⟩ := hu;have HL2 := hid hl;have HF2 := hid hf;obtain ⟨ao, g', off', c, hx, -⟩ := hl;have HX := hid hx;simp only [hx];clear hF hx hf;unfold ag
       go_simp
       simp only [ac];exact hR _ _ ⟨rs', ao, _, c, _, rfl, by rw [← HX.out]; exact HL2.out, HF2.out⟩ (Below.refl _ _)
     simp only [Act.put, List.setIfInBounds_toArray, List.set_cons_zero, List.set_cons_succ, List.length_cons, List.length_nil, Nat.zero_add, Nat.reduceAdd];refine a_wrt (fun _ W => ∃ rs' ao n c tx, W.heap[w.heap.size + 1]? = some (.cells #[.int .i64 r, .int .i64 2, .slice ao n c, .string tx, .string tmo] 39 (0, 0)) ∧ LV W (.agg #[.int .i64 2, .slice ao n c, .string tx]) 2 (20 * d + 4) ((rsD F zM p / (G : Int) : Int) : Rat) rs' ∧ (∀ n, cof rs' n = ((rsD F zM (cof cs n) / (G : Int) : Int) : Rat)) ∧ Below w.heap.size w W) (fun _ _ _ h hb => let ⟨rs', ao, n, c, tx, h1, h2, h3, h4⟩ := h; ⟨rs', ao, n, c, tx, (hb.block _ (ab h1)).trans h1, h2.far hb, h3, h4.trans (hb.mono h4.size)⟩) (fun _ _ _ _ h => h) ?_ ?_ ?_
     · intro x; go_simp; done
     · intro x W R hW hF hD hR;have hu := hF.1.2 rfl rfl rfl;simp only [AK.fact] at hu;obtain ⟨rs', ao, n, c, tx, hx, hl, hf⟩ := hu;have HL2 := hid hl;have HF2 := hid hf;simp only [hx];have hN := (HDW.out W hW).1;have z0 := aa hN.r 0;have z1 := aa hN.r 1;have z2 := aa hN.r 2;have z3 := aa hN.r 3;have z4 := aa hN.r 4;have fr := fun i => ah hN.r i
       clear hF hf hl hx;unfold ag
       go_simp
       simp only [ac];refine hR _ _ ⟨rs', ao, n, c, tx, az hN.r _ _ _ _ _, HL2.out.but hN.r (by decide) (fun g hg => aN _ _ _ _ _ hg), HF2.out, ax hN.bel (by omega) _ _ _ _ _⟩ trivial (by simp [World.setCell])
     simp only [Act.put];refine a_nil (by kernel_rfl) (by kernel_rfl) (by kernel_rfl) (fun _ _ h hb => h.trans (hb.mono h.size)) (fun _ _ _ _ => trivial) (fun _ _ => trivial) (Below.refl _ _).drew ?_;intro x W hE hW hF hD;clear hD;obtain ⟨rs', ao, n, c, tx, h1, h2, h3, h4⟩ := hF.1.2 rfl;have H1 := hid h1;have H2 := hid h2;have H3 := hid h3;have H4 := hid h4;clear hF hW h1 h2 h3 h4 hE
     go_wp2_with fail
     exact end_con rfl rfl rfl H1.out ⟨r, _, _, _, HDF.out _ _ _ _ (.inr (.inr ⟨HZ.out, HQ.out, rfl, rfl, rfl, HTMO.out.symm⟩)), rs', ao, n, c, tx, rfl, H2.out, H3.out, H4.out⟩
end
end Go.Proofs.YteoklapcifonaaaGreatDoor

/- Gcd of package exact. -/
import Derived.Test.YteoklapcifonaaaGreatDoorNNO
import Derived.Deep.LoopGhost
open Go.Lib (hid)
namespace Go.Proofs.YteoklapcifonaaaGreatDoor
open Go.RowKit Nmx
theorem quoRem_any (x y : Value) (za zb : Int) (w : World) (ha : IV w x za) (hb : IV w y zb) (fa : Fit za) (fb : Fit zb) (h0 : zb ≠ 0) : Calls Tryz.prog 121 #[x, y] w (QRPost za zb w) := by
 have ha' := ha;have hb' := hb;rcases ha with ⟨rfl, h1⟩ | ⟨b1, g1, o1, c1, l1, rfl, h2, h3, h4⟩
 · rcases hb with ⟨rfl, k1⟩ | ⟨b2, g2, o2, c2, l2, rfl, k2, k3, k4⟩
   · exact quoRem_ss w h1 k1 h0
   · exact quoRem_all.2.2 w ha' hb' fa fb h0
 · rcases hb with ⟨rfl, k1⟩ | ⟨b2, g2, o2, c2, l2, rfl, k2, k3, k4⟩
   · exact quoRem_all.2.1 w ha' hb' fa fb h0
   · exact quoRem_all.1 w ha' hb' fa fb h0
/-- two integers in blocks B and B + 1, a result in block B + 2 -/
structure GX (w wx : World) (x0 x1 x2 y0 y1 y2 : Value) : Prop where
 ha : wx.heap[w.heap.size]? = some (.cells #[x0, x1, x2] 83 (0, 0))
 hb : wx.heap[w.heap.size + 1]? = some (.cells #[y0, y1, y2] 83 (0, 0))
 hr : wx.heap[w.heap.size + 2]? = some (.cells #[.int .i64 0, .bool false, .slice none 0 0] 83 (0, 0))
 bel : Below w.heap.size w wx
theorem GX.far {w wx w1 : World} {x0 x1 x2 y0 y1 y2 : Value} (h : GX w wx x0 x1 x2 y0 y1 y2) (hb : Below wx.heap.size wx w1) : GX w w1 x0 x1 x2 y0 y1 y2 :=
 ⟨(hb.block _ (ab h.ha)).trans h.ha, (hb.block _ (ab h.hb)).trans h.hb, (hb.block _ (ab h.hr)).trans h.hr, h.bel.trans (hb.mono h.bel.size)⟩
theorem GX.drewN {w wx : World} {x0 x1 x2 y0 y1 y2 : Value} (h : GX w wx x0 x1 x2 y0 y1 y2) (n : Nat) : GX w (wx.drewN n) x0 x1 x2 y0 y1 y2 := ⟨h.ha, h.hb, h.hr, aw h.bel n⟩
theorem GX.drew {w wx : World} {x0 x1 x2 y0 y1 y2 : Value} (h : GX w wx x0 x1 x2 y0 y1 y2) : GX w wx.drew x0 x1 x2 y0 y1 y2 := ⟨h.ha, h.hb, h.hr, h.bel.drew⟩
theorem GX.new (w : World) (x0 x1 x2 y0 y1 y2 : Value) (o2 : Obj) (h2 : o2 = .cells #[.int .i64 0, .bool false, .slice none 0 0] 83) :
    GX w (((w.alloc (.cells #[x0, x1, x2] 83)).alloc (.cells #[y0, y1, y2] 83)).alloc o2) x0 x1 x2 y0 y1 y2 := by
 subst h2;obtain ⟨h1, h2, h3⟩ := new3 w (.cells #[x0, x1, x2] 83) (.cells #[y0, y1, y2] 83) (.cells #[.int .i64 0, .bool false, .slice none 0 0] 83);exact ⟨h1, h2, h3, below3 w _ _ _⟩
theorem GX.cells {w wx : World} {x0 x1 x2 y0 y1 y2 : Value} (h : GX w wx x0 x1 x2 y0 y1 y2) : (wx.cell? ⟨w.heap.size, 0, none⟩ = some x0 ∧ wx.cell? ⟨w.heap.size, 1, none⟩ = some x1 ∧ wx.cell? ⟨w.heap.size, 2, none⟩ = some x2) ∧ (wx.cell? ⟨w.heap.size + 1, 0, none⟩ = some y0 ∧ wx.cell? ⟨w.heap.size + 1, 1, none⟩ = some y1 ∧ wx.cell? ⟨w.heap.size + 1, 2, none⟩ = some y2) ∧ (∀ i, wx.frozen? ⟨w.heap.size, i, none⟩ = false) ∧ (∀ i, wx.frozen? ⟨w.heap.size + 1, i, none⟩ = false) :=
 ⟨⟨aa h.ha 0, aa h.ha 1, aa h.ha 2⟩, ⟨aa h.hb 0, aa h.hb 1, aa h.hb 2⟩, fun i => ah h.ha i, fun i => ah h.hb i⟩
theorem GX.res {w wx : World} {x0 x1 x2 y0 y1 y2 : Value} (h : GX w wx x0 x1 x2 y0 y1 y2) : (wx.cell? ⟨w.heap.size + 1 + 1, 0, none⟩ = some (.int .i64 0) ∧ wx.cell? ⟨w.heap.size + 1 + 1, 1, none⟩ = some (.bool false) ∧ wx.cell? ⟨w.heap.size + 1 + 1, 2, none⟩ = some (.slice none 0 0)) ∧ (∀ i, wx.frozen? ⟨w.heap.size + 1 + 1, i, none⟩ = false) :=
 ⟨⟨aa h.hr 0, aa h.hr 1, aa h.hr 2⟩, fun i => ah h.hr i⟩
theorem GX.setA {w wx : World} {x0 x1 x2 y0 y1 y2 : Value} (h : GX w wx x0 x1 x2 y0 y1 y2) (x y z : Value) : GX w (((wx.setCell ⟨w.heap.size, 0, none⟩ x).setCell ⟨w.heap.size, 1, none⟩ y).setCell ⟨w.heap.size, 2, none⟩ z) x y z y0 y1 y2 := by
 refine ⟨aU h.ha, ?_, ?_, ?_⟩
 · rw [aj _ _ _ (by omega)]; exact h.hb
 · rw [aj _ _ _ (by omega)]; exact h.hr
 · exact ((h.bel.setCell (show w.heap.size ≤ (⟨w.heap.size, 0, none⟩ : Addr).block from Nat.le_refl _) _).setCell (show w.heap.size ≤ (⟨w.heap.size, 1, none⟩ : Addr).block from Nat.le_refl _) _).setCell (show w.heap.size ≤ (⟨w.heap.size, 2, none⟩ : Addr).block from Nat.le_refl _) _
theorem GX.setB {w wx : World} {x0 x1 x2 y0 y1 y2 : Value} (h : GX w wx x0 x1 x2 y0 y1 y2) (x y z : Value) : GX w (((wx.setCell ⟨w.heap.size + 1, 0, none⟩ x).setCell ⟨w.heap.size + 1, 1, none⟩ y).setCell ⟨w.heap.size + 1, 2, none⟩ z) x0 x1 x2 x y z := by
 refine ⟨?_, aU h.hb, ?_, ?_⟩
 · rw [aj _ _ _ (by omega)]; exact h.ha
 · rw [aj _ _ _ (by omega)]; exact h.hr
 · exact ((h.bel.setCell (show w.heap.size ≤ (⟨w.heap.size + 1, 0, none⟩ : Addr).block from Nat.le_succ _) _).setCell (show w.heap.size ≤ (⟨w.heap.size + 1, 1, none⟩ : Addr).block from Nat.le_succ _) _).setCell (show w.heap.size ≤ (⟨w.heap.size + 1, 2, none⟩ : Addr).block from Nat.le_succ _) _
theorem iv_great {w : World} {s : Int} {b : Bool} {ao : Option Addr} {n c : Nat} {z : Int} (h : IV w (.agg #[.int .i64 s, .bool b, .slice ao n c]) z) (hz : ¬ Small z) : ∃ ad, ao = some ad ∧ s = 0 := by
 rcases h with ⟨h, hs⟩ | ⟨b', g, off, cap, l, h, -, -, -⟩
 · exact absurd hs hz
 · unfold bigV at h;simp only [Value.agg.injEq, Array.mk.injEq, List.cons.injEq, Value.int.injEq, Value.slice.injEq, Value.bool.injEq, true_and, and_true] at h;exact ⟨_, h.2.2.1, h.1⟩
/-- the two integers are p and q, what is left of the way is n -/
def GR (w : World) (g n : Nat) (wr : World) : Prop := ∃ s1 b1 a1 n1 c1 s2 b2 a2 n2 c2, ∃ p q : Nat, GX w wr (.int .i64 s1) (.bool b1) (.slice a1 n1 c1) (.int .i64 s2) (.bool b2) (.slice a2 n2 c2) ∧ IV wr (.agg #[.int .i64 s1, .bool b1, .slice a1 n1 c1]) (p : Int) ∧ IV wr (.agg #[.int .i64 s2, .bool b2, .slice a2 n2 c2]) (q : Int) ∧ Nat.gcd p q = g ∧ Fit (p : Int) ∧ Fit (q : Int) ∧ q = n
theorem gr_end {w wr : World} {g n : Nat} {s1 : Int} {b1 : Bool} {a1 : Option Addr} {n1 c1 : Nat} {s2 : Int} {b2 : Bool} {a2 : Option Addr} {n2 c2 : Nat} {x0 x1 x2 y0 y1 y2 : Value} {p q : Nat} (h : GX w wr x0 x1 x2 y0 y1 y2) (hp : IV wr (.agg #[.int .i64 s1, .bool b1, .slice a1 n1 c1]) (p : Int)) (hq : IV wr (.agg #[.int .i64 s2, .bool b2, .slice a2 n2 c2]) (q : Int)) (hg : Nat.gcd p q = g) (fp : Fit (p : Int)) (fq : Fit (q : Int)) (hn : q = n) :
    GR w g n ((((((wr.setCell ⟨w.heap.size, 0, none⟩ (.int .i64 s1)).setCell ⟨w.heap.size, 1, none⟩ (.bool b1)).setCell ⟨w.heap.size, 2, none⟩ (.slice a1 n1 c1)).setCell ⟨w.heap.size + 1, 0, none⟩ (.int .i64 s2)).setCell ⟨w.heap.size + 1, 1, none⟩ (.bool b2)).setCell ⟨w.heap.size + 1, 2, none⟩ (.slice a2 n2 c2)) := by
 have h1 := h.setA (.int .i64 s1) (.bool b1) (.slice a1 n1 c1);have p1 := IV.set3 hp h.ha (.int .i64 s1) (.bool b1) (.slice a1 n1 c1);have q1 := IV.set3 hq h.ha (.int .i64 s1) (.bool b1) (.slice a1 n1 c1);unfold set3 at p1 q1;generalize ((wr.setCell ⟨w.heap.size, 0, none⟩ (.int .i64 s1)).setCell ⟨w.heap.size, 1, none⟩ (.bool b1)).setCell ⟨w.heap.size, 2, none⟩ (.slice a1 n1 c1) = w2 at *;exact ⟨s1, b1, a1, n1, c1, s2, b2, a2, n2, c2, p, q, h1.setB _ _ _, IV.set3 p1 h1.hb _ _ _, IV.set3 q1 h1.hb _ _ _, hg, fp, fq, hn⟩
section
set_option maxRecDepth 100000
set_option maxHeartbeats 4000000
theorem gcd_any (x y : Value) (za zb : Int) (w : World) (ha : IV w x za) (hb : IV w y zb) (fa : Fit za) (fb : Fit zb) : Calls Tryz.prog 116 #[x, y] w (aY (Int.gcd za zb) w) := by
 have kq := mag_eql;have kq0 := mag_eql0;have haa := fun (W : World) (hW : Below w.heap.size w W) => abs_any x za W (ha.far hW)
 have hbb := fun (W : World) (hW : Below w.heap.size w W) => abs_any y zb W (hb.far hW)
 obtain ⟨s1, b1, a1, n1, c1, rfl⟩ := ae ha;obtain ⟨s2, b2, a2, n2, c2, rfl⟩ := ae hb;have F1 : Hid (Fit (za.natAbs : Int)) := hid (fit_le fa (Nat.le_refl _) (Int.natAbs_natCast _));have F2 : Hid (Fit (zb.natAbs : Int)) := hid (fit_le fb (Nat.le_refl _) (Int.natAbs_natCast _));have HG0 := hid (GX.new w (.int .i64 s1) (.bool b1) (.slice a1 n1 c1) (.int .i64 s2) (.bool b2) (.slice a2 n2 c2) _ rfl);obtain ⟨g, hg⟩ : ∃ g, Int.gcd za zb = g := ⟨_, rfl⟩
 have HGG : Hid (Nat.gcd za.natAbs zb.natAbs = g) := hid hg;rw [hg];clear ha hb fa fb hg
 go_enter Tryz.func116, Tryz.ntmps116
 go_upto_region 1 with fail
 go_cut [9] (fun _ wx => GR w g zb.natAbs wx)
 case first =>
  go_region_with ((first | (go_at_call 154; first
   | (with_reducible refine (haa _ HG0.out.drew.bel).mono ?_
      rintro e w1 ⟨v1, rfl, hv1, hb1⟩;have HG1 := hid (HG0.out.drew.far hb1);have HV1 := hid hv1;obtain ⟨s3, b3, a3, n3, c3, rfl⟩ := ae hv1
      obtain ⟨⟨k0, k1, k2⟩, ⟨l0, l1, l2⟩, -, -⟩ := HG1.out.cells)
   | (with_reducible refine (hbb _ HG1.out.bel).mono ?_
      rintro e w2 ⟨v2, rfl, hv2, hb2⟩;have HG2 := hid (HG1.out.far hb2);have HV2 := hid (HV1.out.far hb2);have HU2 := hid hv2;obtain ⟨s4, b4, a4, n4, c4, rfl⟩ := ae hv2
      obtain ⟨⟨m0, m1, m2⟩, ⟨o0, o1, o2⟩, fm, fo⟩ := HG2.out.cells))))
  all_goals (go_wp2_with fail; go_meet; exact gr_end HG2.out HV2.out HU2.out HGG.out F1.out F2.out rfl)
 case rest =>
  clear haa hbb HG0 F1 F2 HGG;have HC := hid hcut;clear hcut
  go_wp2
  go_loopg [14] zb.natAbs (fun n _ wr => GR w g n wr)
  case atStart => exact HC.out
  case round =>
   clear HC;obtain ⟨s1, b1, a1, n1, c1, s2, b2, a2, n2, c2, p, q, hgx, hp, hq, hg, fp, fq, rfl⟩ := hrel;have HX := hid hgx;have HP := hid hp;have HQ := hid hq;have HGC := hid hg;have FP := hid fp;have FQ := hid fq;obtain ⟨⟨k0, k1, k2⟩, ⟨l0, l1, l2⟩, fk, fl⟩ := hgx.cells;clear hgx hp hq hg fp fq;have hiz := isZero_any _ _ wr HQ.out;have hMz : decide (((q : Nat) : Int) = 0) = decide (q = 0) := by rw [decide_eq_decide]; omega
   rw [hMz] at hiz;clear hMz
   go_wp2_with fail
   refine hiz.mono ?_;rintro e w3 ⟨rfl, hb3⟩;have HX3 := hid (HX.out.far hb3);have HP3 := hid (HP.out.far hb3);have HQ3 := hid (HQ.out.far hb3);clear hiz hb3 k0 k1 k2 l0 l1 l2 fk fl HX HP HQ;obtain ⟨⟨k0, k1, k2⟩, ⟨l0, l1, l2⟩, fk, fl⟩ := HX3.out.cells
   by_cases hy : q = 0
   · have hyb : decide (q = 0) = true := decide_eq_true hy;obtain ⟨⟨r0, r1, r2⟩, fr⟩ := HX3.out.res;have HE : Hid (p = g) := hid (by rw [← HGC.out, hy, Nat.gcd_zero_right]);clear hy
     go_wp2
     rw [← HE.out];exact end_int Tryz.results116 rfl rfl HX3.out.hr HP3.out HX3.out.bel (by omega)
   · have hyb : decide (q = 0) = false := decide_eq_false hy;have HQ0 : Hid ((q : Int) ≠ 0) := hid (by omega);have hlt : p % q < q := Nat.mod_lt _ (by omega);have HR : Hid (Nat.gcd q (p % q) = g) := hid (by rw [← HGC.out, Nat.gcd_comm p q, Nat.gcd_rec q p, Nat.gcd_comm]);have FR : Hid (Fit ((p % q : Nat) : Int)) := hid (fit_le FQ.out (Nat.le_of_lt (by rw [Int.natAbs_natCast]; exact hlt)) (Int.natAbs_natCast _));have HM : Hid ((p : Int) % (q : Int) = ((p % q : Nat) : Int)) := hid rfl;have hqr := quoRem_any _ _ _ _ w3 HP3.out HQ3.out FP.out FQ.out HQ0.out;clear hy
     by_cases hbig : Small (p : Int) ∧ Small (q : Int)
     · obtain ⟨hps, hqs⟩ := hbig;have e1 := iv_small HP3.out hps;have e2 := iv_small HQ3.out hqs;unfold bT at e1 e2;obtain ⟨rfl, rfl, rfl, rfl, rfl⟩ : s1 = (p : Int) ∧ b1 = false ∧ a1 = none ∧ n1 = 0 ∧ c1 = 0 := by simpa using e1
       obtain ⟨rfl, rfl, rfl, rfl, rfl⟩ : s2 = (q : Int) ∧ b2 = false ∧ a2 = none ∧ n2 = 0 ∧ c2 = 0 := by simpa using e2
       clear e1 e2 hqr FR HM HR;have hpm := hps.2;have hqm := hqs.2;clear hps hqs hlt
       go_wp2
       go_quiet (fail)
       go_wp2
       go_loopw [5, 6] (fun s t wr => ∃ u v : Nat, s = .int .i64 u ∧ t = .int .i64 v ∧ Nat.gcd u v = g ∧ (u : Int) ≤ 9223372036854775807 ∧ (v : Int) ≤ 9223372036854775807 ∧ ∃ x0 x1 x2 y0 y1 y2, GX w wr x0 x1 x2 y0 y1 y2) (fun _ t _ => (intOf t).toNat)
       case atStart => exact ⟨p, q, rfl, rfl, HGC.out, hpm, hqm, _, _, _, _, _, _, HX3.out.drewN _⟩
       case round =>
        clear k0 k1 k2 l0 l1 l2 fk fl HX3 HP3 HQ3;obtain ⟨u, v, rfl, rfl, hg, hu, hv, x0, x1, x2, y0, y1, y2, hc⟩ := hrel;have HG := hid hg;have HC4 := hid hc;obtain ⟨⟨r0, r1, r2⟩, fr⟩ := hc.res;clear hg hc
        by_cases hq0 : v = 0
        · subst hq0;have HP : Hid (u = g) := hid (by rw [← HG.out, Nat.gcd_zero_right])
          go_wp2
          rw [← HP.out];exact end_int Tryz.results116 rfl rfl HC4.out.hr (bJ _ (by unfold Small; omega)) HC4.out.bel (by omega)
        · have hqb : ((v : Int) != 0) = true := by simp; omega
          have hqe : ((v : Int) == 0) = false := by simp; omega
          have hp0 : (0 : Int) ≤ (u : Int) := by omega
          have hq1 : (0 : Int) < (v : Int) := by omega
          have hlt : u % v < v := Nat.mod_lt _ (by omega);have hpq : (u : Int) % (v : Int) = ((u % v : Nat) : Int) := rfl;have HR : Hid (Nat.gcd v (u % v) = g) := hid (by rw [← HG.out, Nat.gcd_comm u v, Nat.gcd_rec v u, Nat.gcd_comm]);have hpt : (u : Int).tmod (v : Int) = ((u % v : Nat) : Int) := rfl;generalize u % v = r at *
          go_wp2
          go_quiet (fail)
          go_wp2
          go_roundw
          case rel => exact ⟨v, r, rfl, rfl, HR.out, hv, by omega, _, _, _, _, _, _, HC4.out.drewN _⟩
          case measure => simp [intOf]; omega
     · by_cases hps : Small (p : Int)
       · have hqs : ¬ Small (q : Int) := fun h => hbig ⟨hps, h⟩
         clear hbig;have e1 := iv_small HP3.out hps;unfold bT at e1;obtain ⟨rfl, rfl, rfl, rfl, rfl⟩ : s1 = (p : Int) ∧ b1 = false ∧ a1 = none ∧ n1 = 0 ∧ c1 = 0 := by simpa using e1
         clear e1;obtain ⟨ad2, rfl, rfl⟩ := iv_great HQ3.out hqs;clear hps hqs
         go_wp2_with fail
         refine hqr.mono ?_;rintro e w4 ⟨v1, v2, rfl, hv1, hv2, hb4⟩;rw [HM.out] at hv2;have HX4 := hid (HX3.out.far hb4);have HQ4 := hid (HQ3.out.far hb4);have HV2 := hid hv2;obtain ⟨s3, b3, a3, n3, c3, rfl⟩ := ae hv1;obtain ⟨s4, b4, a4, n4, c4, rfl⟩ := ae hv2;have hal : Below w4.heap.size w4 ((w4.alloc (.cells #[.int .i64 s3, .bool b3, .slice a3 n3 c3] 83)).alloc (.cells #[.int .i64 s4, .bool b4, .slice a4 n4 c4] 83)) := below2 w4 _ _;have HX5 := hid (HX4.out.far hal);have HQ5 := hid (HQ4.out.far hal);have HV5 := hid (HV2.out.far hal);have HN5 := hid (bC w4 (.cells #[.int .i64 s3, .bool b3, .slice a3 n3 c3] 83) (.cells #[.int .i64 s4, .bool b4, .slice a4 n4 c4] 83));have hlt4 := ab HX4.out.hr;have hH : w.heap.size + 3 < w4.heap.size + 1 := by omega
         clear hqr hv1 hv2 hb4 hal k0 k1 k2 l0 l1 l2 fk fl HX3 HP3 HQ3 HX4 HQ4 HV2
         go_wp2_with fail
         generalize ((w4.alloc (.cells #[.int .i64 s3, .bool b3, .slice a3 n3 c3] 83)).alloc (.cells #[.int .i64 s4, .bool b4, .slice a4 n4 c4] 83)) = w5 at *;generalize w4.heap.size + 1 = H at *;have hne1 : H ≠ w.heap.size := by omega
         have hne2 : H ≠ w.heap.size + 1 := by omega
         obtain ⟨⟨k0, k1, k2⟩, ⟨l0, l1, l2⟩, fk, fl⟩ := HX5.out.cells;obtain ⟨h0, h1, h2⟩ : w5.cell? ⟨H, 0, none⟩ = some (.int .i64 s4) ∧ w5.cell? ⟨H, 1, none⟩ = some (.bool b4) ∧ w5.cell? ⟨H, 2, none⟩ = some (.slice a4 n4 c4) := ⟨aa HN5.out 0, aa HN5.out 1, aa HN5.out 2⟩
         go_region
         all_goals go_wp2
         all_goals simp only [← World.setCell_drew]
         go_roundg (p % q)
         case rel => exact gr_end HX5.out.drew HQ5.out.drew HV5.out.drew HR.out FQ.out FR.out rfl
         case measure => exact hlt
       · clear hbig
         by_cases hqs : Small (q : Int)
         · skip
           obtain ⟨ad1, rfl, rfl⟩ := iv_great HP3.out hps;have e2 := iv_small HQ3.out hqs;unfold bT at e2;obtain ⟨rfl, rfl, rfl, rfl, rfl⟩ : s2 = (q : Int) ∧ b2 = false ∧ a2 = none ∧ n2 = 0 ∧ c2 = 0 := by simpa using e2
           clear e2;clear hps hqs
           go_wp2_with fail
           refine hqr.mono ?_;rintro e w4 ⟨v1, v2, rfl, hv1, hv2, hb4⟩;rw [HM.out] at hv2;have HX4 := hid (HX3.out.far hb4);have HQ4 := hid (HQ3.out.far hb4);have HV2 := hid hv2;obtain ⟨s3, b3, a3, n3, c3, rfl⟩ := ae hv1;obtain ⟨s4, b4, a4, n4, c4, rfl⟩ := ae hv2;have hal : Below w4.heap.size w4 ((w4.alloc (.cells #[.int .i64 s3, .bool b3, .slice a3 n3 c3] 83)).alloc (.cells #[.int .i64 s4, .bool b4, .slice a4 n4 c4] 83)) := below2 w4 _ _;have HX5 := hid (HX4.out.far hal);have HQ5 := hid (HQ4.out.far hal);have HV5 := hid (HV2.out.far hal);have HN5 := hid (bC w4 (.cells #[.int .i64 s3, .bool b3, .slice a3 n3 c3] 83) (.cells #[.int .i64 s4, .bool b4, .slice a4 n4 c4] 83));have hlt4 := ab HX4.out.hr;have hH : w.heap.size + 3 < w4.heap.size + 1 := by omega
           clear hqr hv1 hv2 hb4 hal k0 k1 k2 l0 l1 l2 fk fl HX3 HP3 HQ3 HX4 HQ4 HV2
           go_wp2_with fail
           generalize ((w4.alloc (.cells #[.int .i64 s3, .bool b3, .slice a3 n3 c3] 83)).alloc (.cells #[.int .i64 s4, .bool b4, .slice a4 n4 c4] 83)) = w5 at *;generalize w4.heap.size + 1 = H at *;have hne1 : H ≠ w.heap.size := by omega
           have hne2 : H ≠ w.heap.size + 1 := by omega
           obtain ⟨⟨k0, k1, k2⟩, ⟨l0, l1, l2⟩, fk, fl⟩ := HX5.out.cells;obtain ⟨h0, h1, h2⟩ : w5.cell? ⟨H, 0, none⟩ = some (.int .i64 s4) ∧ w5.cell? ⟨H, 1, none⟩ = some (.bool b4) ∧ w5.cell? ⟨H, 2, none⟩ = some (.slice a4 n4 c4) := ⟨aa HN5.out 0, aa HN5.out 1, aa HN5.out 2⟩
           go_region
           all_goals go_wp2
           all_goals simp only [← World.setCell_drew]
           go_roundg (p % q)
           case rel => exact gr_end HX5.out.drew HQ5.out.drew HV5.out.drew HR.out FQ.out FR.out rfl
           case measure => exact hlt
         · skip
           obtain ⟨ad1, rfl, rfl⟩ := iv_great HP3.out hps;clear hps hqs
           go_wp2_with fail
           refine hqr.mono ?_;rintro e w4 ⟨v1, v2, rfl, hv1, hv2, hb4⟩;rw [HM.out] at hv2;have HX4 := hid (HX3.out.far hb4);have HQ4 := hid (HQ3.out.far hb4);have HV2 := hid hv2;obtain ⟨s3, b3, a3, n3, c3, rfl⟩ := ae hv1;obtain ⟨s4, b4, a4, n4, c4, rfl⟩ := ae hv2;have hal : Below w4.heap.size w4 ((w4.alloc (.cells #[.int .i64 s3, .bool b3, .slice a3 n3 c3] 83)).alloc (.cells #[.int .i64 s4, .bool b4, .slice a4 n4 c4] 83)) := below2 w4 _ _;have HX5 := hid (HX4.out.far hal);have HQ5 := hid (HQ4.out.far hal);have HV5 := hid (HV2.out.far hal);have HN5 := hid (bC w4 (.cells #[.int .i64 s3, .bool b3, .slice a3 n3 c3] 83) (.cells #[.int .i64 s4, .bool b4, .slice a4 n4 c4] 83));have hlt4 := ab HX4.out.hr;have hH : w.heap.size + 3 < w4.heap.size + 1 := by omega
           clear hqr hv1 hv2 hb4 hal k0 k1 k2 l0 l1 l2 fk fl HX3 HP3 HQ3 HX4 HQ4 HV2
           go_wp2_with fail
           generalize ((w4.alloc (.cells #[.int .i64 s3, .bool b3, .slice a3 n3 c3] 83)).alloc (.cells #[.int .i64 s4, .bool b4, .slice a4 n4 c4] 83)) = w5 at *;generalize w4.heap.size + 1 = H at *;have hne1 : H ≠ w.heap.size := by omega
           have hne2 : H ≠ w.heap.size + 1 := by omega
           obtain ⟨⟨k0, k1, k2⟩, ⟨l0, l1, l2⟩, fk, fl⟩ := HX5.out.cells;obtain ⟨h0, h1, h2⟩ : w5.cell? ⟨H, 0, none⟩ = some (.int .i64 s4) ∧ w5.cell? ⟨H, 1, none⟩ = some (.bool b4) ∧ w5.cell? ⟨H, 2, none⟩ = some (.slice a4 n4 c4) := ⟨aa HN5.out 0, aa HN5.out 1, aa HN5.out 2⟩
           go_region
           all_goals go_wp2
           all_goals simp only [← World.setCell_drew]
           go_roundg (p % q)
           case rel => exact gr_end HX5.out.drew HQ5.out.drew HV5.out.drew HR.out FQ.out FR.out rfl
           case measure => exact hlt
end
end Go.Proofs.YteoklapcifonaaaGreatDoor
namespace Go.Proofs.YteoklapcifonaaaGreatDoor
open Go.RowKit Nmx
/-- two integers in blocks B and B + 1, a rational result in block B + 2 -/
structure QX (w wx : World) (x0 x1 x2 y0 y1 y2 : Value) : Prop where
 ha : wx.heap[w.heap.size]? = some (.cells #[x0, x1, x2] 83 (0, 0))
 hb : wx.heap[w.heap.size + 1]? = some (.cells #[y0, y1, y2] 83 (0, 0))
 hr : wx.heap[w.heap.size + 2]? = some (.cells #[.int .i64 0, .bool false, .slice none 0 0, .int .i64 0, .bool false, .slice none 0 0] 85 (0, 0))
 bel : Below w.heap.size w wx
theorem QX.far {w wx w1 : World} {x0 x1 x2 y0 y1 y2 : Value} (h : QX w wx x0 x1 x2 y0 y1 y2) (hb : Below wx.heap.size wx w1) : QX w w1 x0 x1 x2 y0 y1 y2 :=
 ⟨(hb.block _ (ab h.ha)).trans h.ha, (hb.block _ (ab h.hb)).trans h.hb, (hb.block _ (ab h.hr)).trans h.hr, h.bel.trans (hb.mono h.bel.size)⟩
theorem QX.drewN {w wx : World} {x0 x1 x2 y0 y1 y2 : Value} (h : QX w wx x0 x1 x2 y0 y1 y2) (n : Nat) : QX w (wx.drewN n) x0 x1 x2 y0 y1 y2 := ⟨h.ha, h.hb, h.hr, aw h.bel n⟩
theorem QX.drew {w wx : World} {x0 x1 x2 y0 y1 y2 : Value} (h : QX w wx x0 x1 x2 y0 y1 y2) : QX w wx.drew x0 x1 x2 y0 y1 y2 := ⟨h.ha, h.hb, h.hr, h.bel.drew⟩
theorem QX.new (w : World) (x0 x1 x2 y0 y1 y2 : Value) (o2 : Obj) (h2 : o2 = .cells #[.int .i64 0, .bool false, .slice none 0 0, .int .i64 0, .bool false, .slice none 0 0] 85) :
    QX w (((w.alloc (.cells #[x0, x1, x2] 83)).alloc (.cells #[y0, y1, y2] 83)).alloc o2) x0 x1 x2 y0 y1 y2 := by
 subst h2;obtain ⟨h1, h2, h3⟩ := new3 w (.cells #[x0, x1, x2] 83) (.cells #[y0, y1, y2] 83) (.cells #[.int .i64 0, .bool false, .slice none 0 0, .int .i64 0, .bool false, .slice none 0 0] 85);exact ⟨h1, h2, h3, below3 w _ _ _⟩
theorem QX.cells {w wx : World} {x0 x1 x2 y0 y1 y2 : Value} (h : QX w wx x0 x1 x2 y0 y1 y2) : (wx.cell? ⟨w.heap.size, 0, none⟩ = some x0 ∧ wx.cell? ⟨w.heap.size, 1, none⟩ = some x1 ∧ wx.cell? ⟨w.heap.size, 2, none⟩ = some x2) ∧ (wx.cell? ⟨w.heap.size + 1, 0, none⟩ = some y0 ∧ wx.cell? ⟨w.heap.size + 1, 1, none⟩ = some y1 ∧ wx.cell? ⟨w.heap.size + 1, 2, none⟩ = some y2) ∧ (∀ i, wx.frozen? ⟨w.heap.size, i, none⟩ = false) ∧ (∀ i, wx.frozen? ⟨w.heap.size + 1, i, none⟩ = false) :=
 ⟨⟨aa h.ha 0, aa h.ha 1, aa h.ha 2⟩, ⟨aa h.hb 0, aa h.hb 1, aa h.hb 2⟩, fun i => ah h.ha i, fun i => ah h.hb i⟩
theorem QX.res {w wx : World} {x0 x1 x2 y0 y1 y2 : Value} (h : QX w wx x0 x1 x2 y0 y1 y2) : (wx.cell? ⟨w.heap.size + 1 + 1, 0, none⟩ = some (.int .i64 0) ∧ wx.cell? ⟨w.heap.size + 1 + 1, 1, none⟩ = some (.bool false) ∧ wx.cell? ⟨w.heap.size + 1 + 1, 2, none⟩ = some (.slice none 0 0) ∧ wx.cell? ⟨w.heap.size + 1 + 1, 3, none⟩ = some (.int .i64 0) ∧ wx.cell? ⟨w.heap.size + 1 + 1, 4, none⟩ = some (.bool false) ∧ wx.cell? ⟨w.heap.size + 1 + 1, 5, none⟩ = some (.slice none 0 0)) ∧ (∀ i, wx.frozen? ⟨w.heap.size + 1 + 1, i, none⟩ = false) :=
 ⟨⟨aa h.hr 0, aa h.hr 1, aa h.hr 2, aa h.hr 3, aa h.hr 4, aa h.hr 5⟩, fun i => ah h.hr i⟩
theorem QX.setA {w wx : World} {x0 x1 x2 y0 y1 y2 : Value} (h : QX w wx x0 x1 x2 y0 y1 y2) (x y z : Value) : QX w (((wx.setCell ⟨w.heap.size, 0, none⟩ x).setCell ⟨w.heap.size, 1, none⟩ y).setCell ⟨w.heap.size, 2, none⟩ z) x y z y0 y1 y2 := by
 refine ⟨aU h.ha, ?_, ?_, ?_⟩
 · rw [aj _ _ _ (by omega)]; exact h.hb
 · rw [aj _ _ _ (by omega)]; exact h.hr
 · exact ((h.bel.setCell (show w.heap.size ≤ (⟨w.heap.size, 0, none⟩ : Addr).block from Nat.le_refl _) _).setCell (show w.heap.size ≤ (⟨w.heap.size, 1, none⟩ : Addr).block from Nat.le_refl _) _).setCell (show w.heap.size ≤ (⟨w.heap.size, 2, none⟩ : Addr).block from Nat.le_refl _) _
theorem QX.setB {w wx : World} {x0 x1 x2 y0 y1 y2 : Value} (h : QX w wx x0 x1 x2 y0 y1 y2) (x y z : Value) : QX w (((wx.setCell ⟨w.heap.size + 1, 0, none⟩ x).setCell ⟨w.heap.size + 1, 1, none⟩ y).setCell ⟨w.heap.size + 1, 2, none⟩ z) x0 x1 x2 x y z := by
 refine ⟨?_, aU h.hb, ?_, ?_⟩
 · rw [aj _ _ _ (by omega)]; exact h.ha
 · rw [aj _ _ _ (by omega)]; exact h.hr
 · exact ((h.bel.setCell (show w.heap.size ≤ (⟨w.heap.size + 1, 0, none⟩ : Addr).block from Nat.le_succ _) _).setCell (show w.heap.size ≤ (⟨w.heap.size + 1, 1, none⟩ : Addr).block from Nat.le_succ _) _).setCell (show w.heap.size ≤ (⟨w.heap.size + 1, 2, none⟩ : Addr).block from Nat.le_succ _) _
/-- the two integers N and D in place -/
def QI (w : World) (N D : Int) (wr : World) : Prop := ∃ s1 b1 a1 n1 c1 s2 b2 a2 n2 c2, QX w wr (.int .i64 s1) (.bool b1) (.slice a1 n1 c1) (.int .i64 s2) (.bool b2) (.slice a2 n2 c2) ∧ IV wr (.agg #[.int .i64 s1, .bool b1, .slice a1 n1 c1]) N ∧ IV wr (.agg #[.int .i64 s2, .bool b2, .slice a2 n2 c2]) D
theorem qi_end {w wr : World} {N D : Int} {s1 : Int} {b1 : Bool} {a1 : Option Addr} {n1 c1 : Nat} {s2 : Int} {b2 : Bool} {a2 : Option Addr} {n2 c2 : Nat} {x0 x1 x2 y0 y1 y2 : Value} (h : QX w wr x0 x1 x2 y0 y1 y2) (hp : IV wr (.agg #[.int .i64 s1, .bool b1, .slice a1 n1 c1]) N) (hq : IV wr (.agg #[.int .i64 s2, .bool b2, .slice a2 n2 c2]) D) :
    QI w N D ((((((wr.setCell ⟨w.heap.size, 0, none⟩ (.int .i64 s1)).setCell ⟨w.heap.size, 1, none⟩ (.bool b1)).setCell ⟨w.heap.size, 2, none⟩ (.slice a1 n1 c1)).setCell ⟨w.heap.size + 1, 0, none⟩ (.int .i64 s2)).setCell ⟨w.heap.size + 1, 1, none⟩ (.bool b2)).setCell ⟨w.heap.size + 1, 2, none⟩ (.slice a2 n2 c2)) := by
 have h1 := h.setA (.int .i64 s1) (.bool b1) (.slice a1 n1 c1);have p1 := IV.set3 hp h.ha (.int .i64 s1) (.bool b1) (.slice a1 n1 c1);have q1 := IV.set3 hq h.ha (.int .i64 s1) (.bool b1) (.slice a1 n1 c1);unfold set3 at p1 q1;generalize ((wr.setCell ⟨w.heap.size, 0, none⟩ (.int .i64 s1)).setCell ⟨w.heap.size, 1, none⟩ (.bool b1)).setCell ⟨w.heap.size, 2, none⟩ (.slice a1 n1 c1) = w2 at *;exact ⟨s1, b1, a1, n1, c1, s2, b2, a2, n2, c2, h1.setB _ _ _, IV.set3 p1 h1.hb _ _ _, IV.set3 q1 h1.hb _ _ _⟩
/-- and the common divisor in a block G -/
structure QY (w wx : World) (x0 x1 x2 y0 y1 y2 : Value) (G : Nat) (g0 g1 g2 : Value) : Prop where
 qx : QX w wx x0 x1 x2 y0 y1 y2
 hg : wx.heap[G]? = some (.cells #[g0, g1, g2] 83 (0, 0))
 fa : w.heap.size + 2 < G
theorem QY.far {w wx w1 : World} {x0 x1 x2 y0 y1 y2 g0 g1 g2 : Value} {G : Nat} (h : QY w wx x0 x1 x2 y0 y1 y2 G g0 g1 g2) (hb : Below wx.heap.size wx w1) : QY w w1 x0 x1 x2 y0 y1 y2 G g0 g1 g2 := ⟨h.qx.far hb, (hb.block _ (ab h.hg)).trans h.hg, h.fa⟩
theorem QY.new {w wx : World} {x0 x1 x2 y0 y1 y2 : Value} (g0 g1 g2 : Value) (h : QX w wx x0 x1 x2 y0 y1 y2) : QY w (wx.alloc (.cells #[g0, g1, g2] 83)) x0 x1 x2 y0 y1 y2 wx.heap.size g0 g1 g2 :=
 ⟨h.far ((Below.refl _ _).alloc (Nat.le_refl _) _), heap_alloc_new wx _, ab h.hr⟩
theorem QY.gcells {w wx : World} {x0 x1 x2 y0 y1 y2 g0 g1 g2 : Value} {G : Nat} (h : QY w wx x0 x1 x2 y0 y1 y2 G g0 g1 g2) : wx.cell? ⟨G, 0, none⟩ = some g0 ∧ wx.cell? ⟨G, 1, none⟩ = some g1 ∧ wx.cell? ⟨G, 2, none⟩ = some g2 :=
 ⟨aa h.hg 0, aa h.hg 1, aa h.hg 2⟩
theorem QY.setA {w wx : World} {x0 x1 x2 y0 y1 y2 g0 g1 g2 : Value} {G : Nat} (h : QY w wx x0 x1 x2 y0 y1 y2 G g0 g1 g2) (x y z : Value) : QY w (((wx.setCell ⟨w.heap.size, 0, none⟩ x).setCell ⟨w.heap.size, 1, none⟩ y).setCell ⟨w.heap.size, 2, none⟩ z) x y z y0 y1 y2 G g0 g1 g2 := by
 have hf := h.fa;exact ⟨h.qx.setA _ _ _, by rw [aj _ _ _ (by omega)]; exact h.hg, hf⟩
theorem QY.setB {w wx : World} {x0 x1 x2 y0 y1 y2 g0 g1 g2 : Value} {G : Nat} (h : QY w wx x0 x1 x2 y0 y1 y2 G g0 g1 g2) (x y z : Value) : QY w (((wx.setCell ⟨w.heap.size + 1, 0, none⟩ x).setCell ⟨w.heap.size + 1, 1, none⟩ y).setCell ⟨w.heap.size + 1, 2, none⟩ z) x0 x1 x2 x y z G g0 g1 g2 := by
 have hf := h.fa;exact ⟨h.qx.setB _ _ _, by rw [aj _ _ _ (by omega)]; exact h.hg, hf⟩
theorem divInt_flip (n d : Int) : Rat.divInt (-n) (-d) = Rat.divInt n d := by
 rcases Int.lt_trichotomy d 0 with h | h | h
 · obtain ⟨m, rfl⟩ : ∃ m : Int, d = -m := ⟨-d, by omega⟩
   rw [Int.neg_neg, Rat.divInt_neg']
 · subst h; simp
 · rw [Rat.divInt_neg', Int.neg_neg]
section
set_option maxRecDepth 100000
set_option maxHeartbeats 4000000
theorem quotient_any (x y : Value) (n d : Int) (w : World) (ha : IV w x n) (hb : IV w y d) (fa : Fit n) (fb : Fit d) (h0 : d ≠ 0) : Calls Tryz.prog 109 #[x, y] w (GetsQ (Rat.divInt n d) w) := by
 have hsg := fun (W : World) (hW : Below w.heap.size w W) => sign_any y d W (hb.far hW)
 have hna := fun (W : World) (hW : Below w.heap.size w W) => neg_any x n W (ha.far hW)
 have hnb := fun (W : World) (hW : Below w.heap.size w W) => neg_any y d W (hb.far hW)
 obtain ⟨s1, b1, a1, n1, c1, rfl⟩ := ae ha;obtain ⟨s2, b2, a2, n2, c2, rfl⟩ := ae hb;have HG0 := hid (QX.new w (.int .i64 s1) (.bool b1) (.slice a1 n1 c1) (.int .i64 s2) (.bool b2) (.slice a2 n2 c2) _ rfl);have HA := hid ha;have HB := hid hb
 obtain ⟨N, D, hN, hD, hnd⟩ : ∃ N D : Int, (if d < 0 then -n else n) = N ∧ (if d < 0 then -d else d) = D ∧ 0 < D ∧ Fit N ∧ Fit D ∧ Rat.divInt N D = Rat.divInt n d := by
  refine ⟨_, _, rfl, rfl, ?_⟩
  by_cases h : d < 0
  · rw [if_pos h, if_pos h];exact ⟨by omega, fit_neg fa, fit_neg fb, divInt_flip n d⟩
  · rw [if_neg h, if_neg h];exact ⟨by omega, fa, fb, rfl⟩
 rw [← hnd.2.2.2];have HN := hid hN;have HD := hid hD;have HND := hid hnd;have H0 := hid h0;clear ha hb fa fb hN hD hnd h0
 go_enter Tryz.func109, Tryz.ntmps109
 go_wp2_with fail
 refine (hsg _ HG0.out.bel).mono ?_;rintro e w1 ⟨rfl, hb1⟩;have HG1 := hid (HG0.out.far hb1);have HA1 := hid (HA.out.far HG1.out.bel);have HB1 := hid (HB.out.far HG1.out.bel);clear hb1 hsg
 go_upto_if 8 with fail
 go_cut [9] (fun _ wx => QI w N D wx)
 case first =>
  obtain ⟨⟨k0, k1, k2⟩, ⟨l0, l1, l2⟩, fk, fl⟩ := HG1.out.cells
  by_cases hneg : d < 0
  · have hsb : bc d < 0 := by unfold bc; rw [if_pos hneg]; omega
    have e1 : N = -n := by rw [← HN.out, if_pos hneg]
    have e2 : D = -d := by rw [← HD.out, if_pos hneg]
    have HE := hid (And.intro e1 e2);clear hneg e1 e2
    go_wp2_with fail
    go_region_with ((first | (go_at_call 150; first
     | (with_reducible refine (hna _ HG1.out.drew.bel).mono ?_
        rintro e w2 ⟨v1, rfl, hv1, hb2⟩;have HG2 := hid (HG1.out.drew.far hb2);have HV1 := hid hv1;obtain ⟨s3, b3, a3, n3, c3, rfl⟩ := ae hv1
        obtain ⟨⟨k0, k1, k2⟩, ⟨l0, l1, l2⟩, -, -⟩ := HG2.out.cells)
     | (with_reducible refine (hnb _ HG2.out.bel).mono ?_
        rintro e w3 ⟨v2, rfl, hv2, hb3⟩;have HG3 := hid (HG2.out.far hb3);have HV2 := hid (HV1.out.far hb3);have HU2 := hid hv2;obtain ⟨s4, b4, a4, n4, c4, rfl⟩ := ae hv2
        obtain ⟨⟨m0, m1, m2⟩, ⟨o0, o1, o2⟩, fm, fo⟩ := HG3.out.cells))))
    all_goals (go_wp2_with fail; go_meet; exact qi_end HG3.out (by rw [HE.out.1]; exact HV2.out) (by rw [HE.out.2]; exact HU2.out))
  · have hsb : ¬ bc d < 0 := by unfold bc; rw [if_neg hneg]; split <;> omega
    have e1 : N = n := by rw [← HN.out, if_neg hneg]
    have e2 : D = d := by rw [← HD.out, if_neg hneg]
    have HE := hid (And.intro e1 e2);clear hneg e1 e2
    go_wp2_with fail
    go_meet
    exact ⟨_, _, _, _, _, _, _, _, _, _, HG1.out, by rw [HE.out.1]; exact HA1.out, by rw [HE.out.2]; exact HB1.out⟩
 case rest =>
  clear hna hnb HG0 HG1 HA HB HA1 HB1 HN HD H0;obtain ⟨s1, b1, a1, n1, c1, s2, b2, a2, n2, c2, hqx, hp, hq⟩ := hcut;have HX := hid hqx;have HP := hid hp;have HQ := hid hq;obtain ⟨hD0, hfN, hfD, hE⟩ := HND.out;have FN := hid hfN;have FD := hid hfD;have HE := hid hE;obtain ⟨p1, p2⟩ := divInt_parts (n := N) (d := D) hD0;have P1 := hid p1;have P2 := hid p2;have HD0 := hid hD0;obtain ⟨⟨k0, k1, k2⟩, ⟨l0, l1, l2⟩, fk, fl⟩ := hqx.cells;clear hqx hp hq hfN hfD hE p1 p2 HND hD0
  go_wp2_with fail
  refine (isOne_any _ _ _ HQ.out).mono ?_;rintro e w4 ⟨rfl, hb4⟩;have HX4 := hid (HX.out.far hb4);have HP4 := hid (HP.out.far hb4);have HQ4 := hid (HQ.out.far hb4);clear hb4 k0 k1 k2 l0 l1 l2 fk fl HX HP HQ;obtain ⟨⟨k0, k1, k2⟩, ⟨l0, l1, l2⟩, fk, fl⟩ := HX4.out.cells
  by_cases hd1 : D = 1
  · have hdb : decide (D = 1) = true := decide_eq_true hd1
    have HN1 : Hid ((Rat.divInt N D).num = N ∧ denI (Rat.divInt N D) = 0) := hid (by
     rw [P1.out];have h1 := P2.out;rw [hd1] at h1 ⊢;rw [Int.gcd_one_right] at h1 ⊢
     exact ⟨by simp, denI_one (by have : ((Rat.divInt N 1).den : Int) = 1 := by rw [h1]; simp
                                  omega)⟩)
    obtain ⟨⟨r0, r1, r2, r3, r4, r5⟩, fr⟩ := HX4.out.res;clear hd1
    go_wp2
    exact end_rat Tryz.results109 rfl rfl HX4.out.hr (by rw [HN1.out.1]; exact HP4.out) (by rw [HN1.out.2]; exact bx _) HX4.out.bel (by omega)
  · have hdb : decide (D = 1) = false := decide_eq_false hd1;have HD1 := hid hd1;clear hd1
    go_wp2_with fail
    refine (gcd_any _ _ _ _ _ HP4.out HQ4.out FN.out FD.out).mono ?_;rintro e w5 ⟨v5, rfl, hv5, hb5⟩;have HX5 := hid (HX4.out.far hb5);have HP5 := hid (HP4.out.far hb5);have HQ5 := hid (HQ4.out.far hb5);have HV5 := hid hv5;obtain ⟨s5, b5, a5, n5, c5, rfl⟩ := ae hv5;have hal : Below w5.heap.size w5 (w5.alloc (.cells #[.int .i64 s5, .bool b5, .slice a5 n5 c5] 83)) := (Below.refl _ _).alloc (Nat.le_refl _) _;have HY := hid (QY.new (.int .i64 s5) (.bool b5) (.slice a5 n5 c5) HX5.out);have HP6 := hid (HP5.out.far hal);have HQ6 := hid (HQ5.out.far hal);have HV6 := hid (HV5.out.far hal)
    have hg1 : 1 ≤ (Int.gcd N D : Int) := by
     have : 0 < Int.gcd N D := Int.gcd_pos_iff.2 (.inr (by have := HD0.out; omega))
     omega
    have HG1 := hid hg1;have FG : Hid (Fit (Int.gcd N D : Int)) := hid (fit_le FD.out (Int.gcd_le_natAbs_right N (by have := HD0.out; omega)) (Int.natAbs_natCast _));clear hv5 hb5 hal k0 k1 k2 l0 l1 l2 fk fl HX4 HP4 HQ4 HX5 HP5 HQ5 HV5 hg1;generalize (Int.gcd N D : Int) = g at *
    go_wp2_with fail
    generalize w5.alloc (.cells #[.int .i64 s5, .bool b5, .slice a5 n5 c5] 83) = w6 at *;generalize w5.heap.size = G at *;refine (isOne_any _ _ _ HV6.out).mono ?_;rintro e w7 ⟨rfl, hb7⟩;have HY7 := hid (HY.out.far hb7);have HP7 := hid (HP6.out.far hb7);have HQ7 := hid (HQ6.out.far hb7);have HV7 := hid (HV6.out.far hb7);clear hb7 HY HP6 HQ6 HV6;obtain ⟨⟨k0, k1, k2⟩, ⟨l0, l1, l2⟩, fk, fl⟩ := HY7.out.qx.cells
    by_cases hg : g = 1
    · have hgb : decide (g = 1) = true := decide_eq_true hg
      have HN1 : Hid ((Rat.divInt N D).num = N ∧ denI (Rat.divInt N D) = D) := hid (by
       have h1 := P1.out;have h2 := P2.out;rw [hg, Int.ediv_one] at h1 h2;refine ⟨h1, ?_⟩;have := HD1.out
       unfold denI; rw [if_neg (by omega)]; exact h2)
      clear hg
      go_wp2_with fail
      refine (isOne_any _ _ _ HQ7.out).mono ?_;rintro e w8 ⟨rfl, hb8⟩;have HY8 := hid (HY7.out.far hb8);have HP8 := hid (HP7.out.far hb8);have HQ8 := hid (HQ7.out.far hb8);clear hb8 HY7 HP7 HQ7 k0 k1 k2 l0 l1 l2 fk fl;obtain ⟨⟨k0, k1, k2⟩, ⟨l0, l1, l2⟩, fk, fl⟩ := HY8.out.qx.cells;obtain ⟨⟨r0, r1, r2, r3, r4, r5⟩, fr⟩ := HY8.out.qx.res
      go_wp2
      exact end_rat Tryz.results109 rfl rfl HY8.out.qx.hr (by rw [HN1.out.1]; exact HP8.out) (by rw [HN1.out.2]; exact HQ8.out) HY8.out.qx.bel (by omega)
    · have hgb : decide (g = 1) = false := decide_eq_false hg;clear hg;obtain ⟨g0, g1, g2⟩ := HY7.out.gcells
      go_wp2_with fail
      refine (quoRem_any _ _ _ _ _ HP7.out HV7.out FN.out FG.out (by have := HG1.out; omega)).mono ?_;rintro e w8 ⟨v8, u8, rfl, hv8, -, hb8⟩;have HY8 := hid (HY7.out.far hb8);have HQ8 := hid (HQ7.out.far hb8);have HV8 := hid (HV7.out.far hb8);have HP8 := hid hv8;obtain ⟨s8, b8, a8, n8, c8, rfl⟩ := ae hv8;clear hv8 hb8 HY7 HP7 HQ7 HV7 k0 k1 k2 l0 l1 l2 fk fl g0 g1 g2;obtain ⟨⟨k0, k1, k2⟩, ⟨l0, l1, l2⟩, fk, fl⟩ := HY8.out.qx.cells;obtain ⟨g0, g1, g2⟩ := HY8.out.gcells;have hneG : G ≠ w.heap.size := by have := HY8.out.fa; omega
      have hneG1 : G ≠ w.heap.size + 1 := by have := HY8.out.fa; omega
      go_wp2_with fail
      have HY9 := hid (HY8.out.setA (.int .i64 s8) (.bool b8) (.slice a8 n8 c8));have HP9 := hid (IV.set3 HP8.out HY8.out.qx.ha (.int .i64 s8) (.bool b8) (.slice a8 n8 c8));have HQ9 := hid (IV.set3 HQ8.out HY8.out.qx.ha (.int .i64 s8) (.bool b8) (.slice a8 n8 c8));have HV9 := hid (IV.set3 HV8.out HY8.out.qx.ha (.int .i64 s8) (.bool b8) (.slice a8 n8 c8));unfold set3 at HP9 HQ9 HV9;clear HY8 HP8 HQ8 HV8 k0 k1 k2 l0 l1 l2 fk fl g0 g1 g2;generalize ((w8.setCell ⟨w.heap.size, 0, none⟩ (.int .i64 s8)).setCell ⟨w.heap.size, 1, none⟩ (.bool b8)).setCell ⟨w.heap.size, 2, none⟩ (.slice a8 n8 c8) = w9 at *;refine (quoRem_any _ _ _ _ _ HQ9.out HV9.out FD.out FG.out (by have := HG1.out; omega)).mono ?_;rintro e w10 ⟨v10, u10, rfl, hv10, -, hb10⟩;have HY10 := hid (HY9.out.far hb10);have HP10 := hid (HP9.out.far hb10);have HQ10 := hid hv10;obtain ⟨s10, b10, a10, n10, c10, rfl⟩ := ae hv10;clear hv10 hb10 HY9 HP9 HQ9 HV9;obtain ⟨⟨k0, k1, k2⟩, ⟨l0, l1, l2⟩, fk, fl⟩ := HY10.out.qx.cells
      go_wp2_with fail
      have HY11 := hid (HY10.out.setB (.int .i64 s10) (.bool b10) (.slice a10 n10 c10));have HP11 := hid (IV.set3 HP10.out HY10.out.qx.hb (.int .i64 s10) (.bool b10) (.slice a10 n10 c10));have HQ11 := hid (IV.set3 HQ10.out HY10.out.qx.hb (.int .i64 s10) (.bool b10) (.slice a10 n10 c10));unfold set3 at HP11 HQ11;clear HY10 HP10 HQ10 k0 k1 k2 l0 l1 l2 fk fl;generalize ((w10.setCell ⟨w.heap.size + 1, 0, none⟩ (.int .i64 s10)).setCell ⟨w.heap.size + 1, 1, none⟩ (.bool b10)).setCell ⟨w.heap.size + 1, 2, none⟩ (.slice a10 n10 c10) = w11 at *;refine (isOne_any _ _ _ HQ11.out).mono ?_;rintro e w12 ⟨rfl, hb12⟩;have HY12 := hid (HY11.out.far hb12);have HP12 := hid (HP11.out.far hb12);have HQ12 := hid (HQ11.out.far hb12);clear hb12 HY11 HP11 HQ11;obtain ⟨⟨k0, k1, k2⟩, ⟨l0, l1, l2⟩, fk, fl⟩ := HY12.out.qx.cells;obtain ⟨⟨r0, r1, r2, r3, r4, r5⟩, fr⟩ := HY12.out.qx.res
      by_cases h1d : D / g = 1
      · have hdd : decide (D / g = 1) = true := decide_eq_true h1d;have HDE : Hid (denI (Rat.divInt N D) = 0) := hid (by have := P2.out; exact denI_one (by omega));clear h1d
        go_wp2
        exact end_rat Tryz.results109 rfl rfl HY12.out.qx.hr (by rw [P1.out]; exact HP12.out) (by rw [HDE.out]; exact bx _) HY12.out.qx.bel (by omega)
      · have hdd : decide (D / g = 1) = false := decide_eq_false h1d;have HDE : Hid (denI (Rat.divInt N D) = D / g) := hid (by have := P2.out; unfold denI; rw [if_neg (by omega)]; exact this);clear h1d
        go_wp2
        exact end_rat Tryz.results109 rfl rfl HY12.out.qx.hr (by rw [P1.out]; exact HP12.out) (by rw [HDE.out]; exact HQ12.out) HY12.out.qx.bel (by omega)
theorem quotOk_any {n d : Int} (fa : Fit n) (fb : Fit d) (h0 : d ≠ 0) : QuotOk n d := fun x y W hx hy => quotient_any x y n d W hx hy fa fb h0
theorem gcdOk_any {n d : Int} (fa : Fit n) (fb : Fit d) : GcdOk n d := fun x y W hx hy => gcd_any x y n d W hx hy fa fb
end
end Go.Proofs.YteoklapcifonaaaGreatDoor

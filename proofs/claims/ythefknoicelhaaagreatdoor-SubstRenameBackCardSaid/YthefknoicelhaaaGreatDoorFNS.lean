/- Gcd of package exact. -/
import Derived.Test.YthefknoicelhaaaGreatDoorFNO
import Derived.Deep.LoopGhost
import Derived.Test.YthefknoicelhaaaGreatDoorFNB
namespace Go.Proofs.YthefknoicelhaaaGreatDoor
open Go.RowKit Nmx

theorem quoRem_any (x y : Value) (za zb : Int) (w : World) (ha : IV w x za) (hb : IV w y zb) (fa : Fit za) (fb : Fit zb) (h0 : zb ≠ 0) : Calls Tryz.prog 149 #[x, y] w (QRPost za zb w) := by
  have ha' := ha
  have hb' := hb
  rcases ha with ⟨rfl, h1⟩ | ⟨b1, g1, o1, c1, l1, rfl, h2, h3, h4⟩
  · rcases hb with ⟨rfl, k1⟩ | ⟨b2, g2, o2, c2, l2, rfl, k2, k3, k4⟩
    · exact quoRem_ss w h1 k1 h0
    · exact quoRem_all.2.2 w ha' hb' fa fb h0
  · rcases hb with ⟨rfl, k1⟩ | ⟨b2, g2, o2, c2, l2, rfl, k2, k3, k4⟩
    · exact quoRem_all.2.1 w ha' hb' fa fb h0
    · exact quoRem_all.1 w ha' hb' fa fb h0
/-- two integers in blocks B and B + 1, a result in block B + 2 -/
structure GX (w wx : World) (x0 x1 x2 y0 y1 y2 : Value) : Prop where
  ha : wx.heap[w.heap.size]? = some (.cells #[x0, x1, x2] 147 (0, 0))
  hb : wx.heap[w.heap.size + 1]? = some (.cells #[y0, y1, y2] 147 (0, 0))
  hr : wx.heap[w.heap.size + 2]? = some (.cells #[.int .i64 0, .bool false, .slice none 0 0] 147 (0, 0))
  bel : Below w.heap.size w wx
theorem GX.far {w wx w1 : World} {x0 x1 x2 y0 y1 y2 : Value} (h : GX w wx x0 x1 x2 y0 y1 y2) (hb : Below wx.heap.size wx w1) : GX w w1 x0 x1 x2 y0 y1 y2 :=
  ⟨(hb.block _ (lt_of_heap h.ha)).trans h.ha, (hb.block _ (lt_of_heap h.hb)).trans h.hb, (hb.block _ (lt_of_heap h.hr)).trans h.hr, h.bel.trans (hb.mono h.bel.size)⟩
theorem GX.drewN {w wx : World} {x0 x1 x2 y0 y1 y2 : Value} (h : GX w wx x0 x1 x2 y0 y1 y2) (n : Nat) : GX w (wx.drewN n) x0 x1 x2 y0 y1 y2 := ⟨h.ha, h.hb, h.hr, below_drewN h.bel n⟩
theorem GX.drew {w wx : World} {x0 x1 x2 y0 y1 y2 : Value} (h : GX w wx x0 x1 x2 y0 y1 y2) : GX w wx.drew x0 x1 x2 y0 y1 y2 := ⟨h.ha, h.hb, h.hr, h.bel.drew⟩
theorem GX.new (w : World) (x0 x1 x2 y0 y1 y2 : Value) (o2 : Obj) (h2 : o2 = .cells #[.int .i64 0, .bool false, .slice none 0 0] 147) :
    GX w (((w.alloc (.cells #[x0, x1, x2] 147)).alloc (.cells #[y0, y1, y2] 147)).alloc o2) x0 x1 x2 y0 y1 y2 := by
  subst h2
  obtain ⟨h1, h2, h3⟩ := new3 w (.cells #[x0, x1, x2] 147) (.cells #[y0, y1, y2] 147) (.cells #[.int .i64 0, .bool false, .slice none 0 0] 147)
  exact ⟨h1, h2, h3, below3 w _ _ _⟩
theorem GX.cells {w wx : World} {x0 x1 x2 y0 y1 y2 : Value} (h : GX w wx x0 x1 x2 y0 y1 y2) : (wx.cell? ⟨w.heap.size, 0, none⟩ = some x0 ∧ wx.cell? ⟨w.heap.size, 1, none⟩ = some x1 ∧ wx.cell? ⟨w.heap.size, 2, none⟩ = some x2) ∧ (wx.cell? ⟨w.heap.size + 1, 0, none⟩ = some y0 ∧ wx.cell? ⟨w.heap.size + 1, 1, none⟩ = some y1 ∧ wx.cell? ⟨w.heap.size + 1, 2, none⟩ = some y2) ∧ (∀ i, wx.frozen? ⟨w.heap.size, i, none⟩ = false) ∧ (∀ i, wx.frozen? ⟨w.heap.size + 1, i, none⟩ = false) :=
  ⟨⟨heap_cell h.ha 0, heap_cell h.ha 1, heap_cell h.ha 2⟩, ⟨heap_cell h.hb 0, heap_cell h.hb 1, heap_cell h.hb 2⟩, fun i => heap_fz h.ha i, fun i => heap_fz h.hb i⟩
theorem GX.res {w wx : World} {x0 x1 x2 y0 y1 y2 : Value} (h : GX w wx x0 x1 x2 y0 y1 y2) : (wx.cell? ⟨w.heap.size + 1 + 1, 0, none⟩ = some (.int .i64 0) ∧ wx.cell? ⟨w.heap.size + 1 + 1, 1, none⟩ = some (.bool false) ∧ wx.cell? ⟨w.heap.size + 1 + 1, 2, none⟩ = some (.slice none 0 0)) ∧ (∀ i, wx.frozen? ⟨w.heap.size + 1 + 1, i, none⟩ = false) :=
  ⟨⟨heap_cell h.hr 0, heap_cell h.hr 1, heap_cell h.hr 2⟩, fun i => heap_fz h.hr i⟩
theorem GX.setA {w wx : World} {x0 x1 x2 y0 y1 y2 : Value} (h : GX w wx x0 x1 x2 y0 y1 y2) (x y z : Value) : GX w (((wx.setCell ⟨w.heap.size, 0, none⟩ x).setCell ⟨w.heap.size, 1, none⟩ y).setCell ⟨w.heap.size, 2, none⟩ z) x y z y0 y1 y2 := by
  refine ⟨set3_heap h.ha, ?_, ?_, ?_⟩
  · rw [set3_other _ _ _ (by omega)]; exact h.hb
  · rw [set3_other _ _ _ (by omega)]; exact h.hr
  · exact ((h.bel.setCell (show w.heap.size ≤ (⟨w.heap.size, 0, none⟩ : Addr).block from Nat.le_refl _) _).setCell (show w.heap.size ≤ (⟨w.heap.size, 1, none⟩ : Addr).block from Nat.le_refl _) _).setCell (show w.heap.size ≤ (⟨w.heap.size, 2, none⟩ : Addr).block from Nat.le_refl _) _
theorem GX.setB {w wx : World} {x0 x1 x2 y0 y1 y2 : Value} (h : GX w wx x0 x1 x2 y0 y1 y2) (x y z : Value) : GX w (((wx.setCell ⟨w.heap.size + 1, 0, none⟩ x).setCell ⟨w.heap.size + 1, 1, none⟩ y).setCell ⟨w.heap.size + 1, 2, none⟩ z) x0 x1 x2 x y z := by
  refine ⟨?_, set3_heap h.hb, ?_, ?_⟩
  · rw [set3_other _ _ _ (by omega)]; exact h.ha
  · rw [set3_other _ _ _ (by omega)]; exact h.hr
  · exact ((h.bel.setCell (show w.heap.size ≤ (⟨w.heap.size + 1, 0, none⟩ : Addr).block from Nat.le_succ _) _).setCell (show w.heap.size ≤ (⟨w.heap.size + 1, 1, none⟩ : Addr).block from Nat.le_succ _) _).setCell (show w.heap.size ≤ (⟨w.heap.size + 1, 2, none⟩ : Addr).block from Nat.le_succ _) _
theorem iv_great {w : World} {s : Int} {b : Bool} {ao : Option Addr} {n c : Nat} {z : Int} (h : IV w (.agg #[.int .i64 s, .bool b, .slice ao n c]) z) (hz : ¬ Small z) : ∃ ad, ao = some ad ∧ s = 0 := by
  rcases h with ⟨h, hs⟩ | ⟨b', g, off, cap, l, h, -, -, -⟩
  · exact absurd hs hz
  · unfold bigV at h
    simp only [Value.agg.injEq, Array.mk.injEq, List.cons.injEq, Value.int.injEq, Value.slice.injEq, Value.bool.injEq, true_and, and_true] at h
    exact ⟨_, h.2.2.1, h.1⟩
/-- the two integers are p and q, what is left of the way is n -/
def GR (w : World) (g n : Nat) (wr : World) : Prop := ∃ s1 b1 a1 n1 c1 s2 b2 a2 n2 c2, ∃ p q : Nat, GX w wr (.int .i64 s1) (.bool b1) (.slice a1 n1 c1) (.int .i64 s2) (.bool b2) (.slice a2 n2 c2) ∧ IV wr (.agg #[.int .i64 s1, .bool b1, .slice a1 n1 c1]) (p : Int) ∧ IV wr (.agg #[.int .i64 s2, .bool b2, .slice a2 n2 c2]) (q : Int) ∧ Nat.gcd p q = g ∧ Fit (p : Int) ∧ Fit (q : Int) ∧ q = n
theorem gr_end {w wr : World} {g n : Nat} {s1 : Int} {b1 : Bool} {a1 : Option Addr} {n1 c1 : Nat} {s2 : Int} {b2 : Bool} {a2 : Option Addr} {n2 c2 : Nat} {x0 x1 x2 y0 y1 y2 : Value} {p q : Nat} (h : GX w wr x0 x1 x2 y0 y1 y2) (hp : IV wr (.agg #[.int .i64 s1, .bool b1, .slice a1 n1 c1]) (p : Int)) (hq : IV wr (.agg #[.int .i64 s2, .bool b2, .slice a2 n2 c2]) (q : Int)) (hg : Nat.gcd p q = g) (fp : Fit (p : Int)) (fq : Fit (q : Int)) (hn : q = n) :
    GR w g n ((((((wr.setCell ⟨w.heap.size, 0, none⟩ (.int .i64 s1)).setCell ⟨w.heap.size, 1, none⟩ (.bool b1)).setCell ⟨w.heap.size, 2, none⟩ (.slice a1 n1 c1)).setCell ⟨w.heap.size + 1, 0, none⟩ (.int .i64 s2)).setCell ⟨w.heap.size + 1, 1, none⟩ (.bool b2)).setCell ⟨w.heap.size + 1, 2, none⟩ (.slice a2 n2 c2)) := by
  have h1 := h.setA (.int .i64 s1) (.bool b1) (.slice a1 n1 c1)
  have p1 := IV.set3 hp h.ha (.int .i64 s1) (.bool b1) (.slice a1 n1 c1)
  have q1 := IV.set3 hq h.ha (.int .i64 s1) (.bool b1) (.slice a1 n1 c1)
  unfold set3 at p1 q1
  generalize ((wr.setCell ⟨w.heap.size, 0, none⟩ (.int .i64 s1)).setCell ⟨w.heap.size, 1, none⟩ (.bool b1)).setCell ⟨w.heap.size, 2, none⟩ (.slice a1 n1 c1) = w2 at *
  exact ⟨s1, b1, a1, n1, c1, s2, b2, a2, n2, c2, p, q, h1.setB _ _ _, IV.set3 p1 h1.hb _ _ _, IV.set3 q1 h1.hb _ _ _, hg, fp, fq, hn⟩

section
set_option maxRecDepth 100000
set_option maxHeartbeats 4000000
theorem gcd_any (x y : Value) (za zb : Int) (w : World) (ha : IV w x za) (hb : IV w y zb) (fa : Fit za) (fb : Fit zb) : Calls Tryz.prog 137 #[x, y] w (GetsI (Int.gcd za zb) w) := by
  have kq := mag_eql
  have kq0 := mag_eql0
  have haa := fun (W : World) (hW : Below w.heap.size w W) => abs_any x za W (ha.far hW)
  have hbb := fun (W : World) (hW : Below w.heap.size w W) => abs_any y zb W (hb.far hW)
  obtain ⟨s1, b1, a1, n1, c1, rfl⟩ := iv_form ha
  obtain ⟨s2, b2, a2, n2, c2, rfl⟩ := iv_form hb
  have F1 : Hid (Fit (za.natAbs : Int)) := Lib.hid (fit_le fa (Nat.le_refl _) (Int.natAbs_natCast _))
  have F2 : Hid (Fit (zb.natAbs : Int)) := Lib.hid (fit_le fb (Nat.le_refl _) (Int.natAbs_natCast _))
  have HG0 := Lib.hid (GX.new w (.int .i64 s1) (.bool b1) (.slice a1 n1 c1) (.int .i64 s2) (.bool b2) (.slice a2 n2 c2) _ rfl)
  obtain ⟨g, hg⟩ : ∃ g, Int.gcd za zb = g := ⟨_, rfl⟩
  have HGG : Hid (Nat.gcd za.natAbs zb.natAbs = g) := Lib.hid hg
  rw [hg]
  clear ha hb fa fb hg
  go_enter Tryz.func137, Tryz.ntmps137
  go_upto_region 1 with fail
  go_cut [9] (fun _ wx => GR w g zb.natAbs wx)
  case first =>
    go_region_with ((first | (go_at_call 148; first
      | (with_reducible refine (haa _ HG0.out.drew.bel).mono ?_
         rintro e w1 ⟨v1, rfl, hv1, hb1⟩
         have HG1 := Lib.hid (HG0.out.drew.far hb1)
         have HV1 := Lib.hid hv1
         obtain ⟨s3, b3, a3, n3, c3, rfl⟩ := iv_form hv1
         obtain ⟨⟨k0, k1, k2⟩, ⟨l0, l1, l2⟩, -, -⟩ := HG1.out.cells)
      | (with_reducible refine (hbb _ HG1.out.bel).mono ?_
         rintro e w2 ⟨v2, rfl, hv2, hb2⟩
         have HG2 := Lib.hid (HG1.out.far hb2)
         have HV2 := Lib.hid (HV1.out.far hb2)
         have HU2 := Lib.hid hv2
         obtain ⟨s4, b4, a4, n4, c4, rfl⟩ := iv_form hv2
         obtain ⟨⟨m0, m1, m2⟩, ⟨o0, o1, o2⟩, fm, fo⟩ := HG2.out.cells))))
    all_goals (go_wp2_with fail; go_meet; exact gr_end HG2.out HV2.out HU2.out HGG.out F1.out F2.out rfl)
  case rest =>
    clear haa hbb HG0 F1 F2 HGG
    have HC := Lib.hid hcut
    clear hcut
    go_wp2
    go_loopg [14] zb.natAbs (fun n _ wr => GR w g n wr)
    case atStart => exact HC.out
    case round =>
      clear HC
      obtain ⟨s1, b1, a1, n1, c1, s2, b2, a2, n2, c2, p, q, hgx, hp, hq, hg, fp, fq, rfl⟩ := hrel
      have HX := Lib.hid hgx
      have HP := Lib.hid hp
      have HQ := Lib.hid hq
      have HGC := Lib.hid hg
      have FP := Lib.hid fp
      have FQ := Lib.hid fq
      obtain ⟨⟨k0, k1, k2⟩, ⟨l0, l1, l2⟩, fk, fl⟩ := hgx.cells
      clear hgx hp hq hg fp fq
      have hiz := isZero_any _ _ wr HQ.out
      have hMz : decide (((q : Nat) : Int) = 0) = decide (q = 0) := by rw [decide_eq_decide]; omega
      rw [hMz] at hiz
      clear hMz
      go_wp2_with fail
      refine hiz.mono ?_
      rintro e w3 ⟨rfl, hb3⟩
      have HX3 := Lib.hid (HX.out.far hb3)
      have HP3 := Lib.hid (HP.out.far hb3)
      have HQ3 := Lib.hid (HQ.out.far hb3)
      clear hiz hb3 k0 k1 k2 l0 l1 l2 fk fl HX HP HQ
      obtain ⟨⟨k0, k1, k2⟩, ⟨l0, l1, l2⟩, fk, fl⟩ := HX3.out.cells
      by_cases hy : q = 0
      · have hyb : decide (q = 0) = true := decide_eq_true hy
        obtain ⟨⟨r0, r1, r2⟩, fr⟩ := HX3.out.res
        have HE : Hid (p = g) := Lib.hid (by rw [← HGC.out, hy, Nat.gcd_zero_right])
        clear hy
        go_wp2
        rw [← HE.out]
        exact end_int Tryz.results137 rfl rfl HX3.out.hr HP3.out HX3.out.bel (by omega)
      · have hyb : decide (q = 0) = false := decide_eq_false hy
        have HQ0 : Hid ((q : Int) ≠ 0) := Lib.hid (by omega)
        have hlt : p % q < q := Nat.mod_lt _ (by omega)
        have HR : Hid (Nat.gcd q (p % q) = g) := Lib.hid (by rw [← HGC.out, Nat.gcd_comm p q, Nat.gcd_rec q p, Nat.gcd_comm])
        have FR : Hid (Fit ((p % q : Nat) : Int)) := Lib.hid (fit_le FQ.out (Nat.le_of_lt (by rw [Int.natAbs_natCast]; exact hlt)) (Int.natAbs_natCast _))
        have HM : Hid ((p : Int) % (q : Int) = ((p % q : Nat) : Int)) := Lib.hid rfl
        have hqr := quoRem_any _ _ _ _ w3 HP3.out HQ3.out FP.out FQ.out HQ0.out
        clear hy
        by_cases hbig : Small (p : Int) ∧ Small (q : Int)
        · obtain ⟨hps, hqs⟩ := hbig
          have e1 := iv_small HP3.out hps
          have e2 := iv_small HQ3.out hqs
          unfold smallV at e1 e2
          obtain ⟨rfl, rfl, rfl, rfl, rfl⟩ : s1 = (p : Int) ∧ b1 = false ∧ a1 = none ∧ n1 = 0 ∧ c1 = 0 := by simpa using e1
          obtain ⟨rfl, rfl, rfl, rfl, rfl⟩ : s2 = (q : Int) ∧ b2 = false ∧ a2 = none ∧ n2 = 0 ∧ c2 = 0 := by simpa using e2
          clear e1 e2 hqr FR HM HR
          have hpm := hps.2
          have hqm := hqs.2
          clear hps hqs hlt
          go_wp2
          go_quiet (fail)
          go_wp2
          go_loopw [5, 6] (fun s t wr => ∃ u v : Nat, s = .int .i64 u ∧ t = .int .i64 v ∧ Nat.gcd u v = g ∧ (u : Int) ≤ 9223372036854775807 ∧ (v : Int) ≤ 9223372036854775807 ∧ ∃ x0 x1 x2 y0 y1 y2, GX w wr x0 x1 x2 y0 y1 y2) (fun _ t _ => (intOf t).toNat)
          case atStart => exact ⟨p, q, rfl, rfl, HGC.out, hpm, hqm, _, _, _, _, _, _, HX3.out.drewN _⟩
          case round =>
            clear k0 k1 k2 l0 l1 l2 fk fl HX3 HP3 HQ3
            obtain ⟨u, v, rfl, rfl, hg, hu, hv, x0, x1, x2, y0, y1, y2, hc⟩ := hrel
            have HG := Lib.hid hg
            have HC4 := Lib.hid hc
            obtain ⟨⟨r0, r1, r2⟩, fr⟩ := hc.res
            clear hg hc
            by_cases hq0 : v = 0
            · subst hq0
              have HP : Hid (u = g) := Lib.hid (by rw [← HG.out, Nat.gcd_zero_right])
              go_wp2
              rw [← HP.out]
              exact end_int Tryz.results137 rfl rfl HC4.out.hr (small_iv _ (by unfold Small; omega)) HC4.out.bel (by omega)
            · have hqb : ((v : Int) != 0) = true := by simp; omega
              have hqe : ((v : Int) == 0) = false := by simp; omega
              have hp0 : (0 : Int) ≤ (u : Int) := by omega
              have hq1 : (0 : Int) < (v : Int) := by omega
              have hlt : u % v < v := Nat.mod_lt _ (by omega)
              have hpq : (u : Int) % (v : Int) = ((u % v : Nat) : Int) := rfl
              have HR : Hid (Nat.gcd v (u % v) = g) := Lib.hid (by rw [← HG.out, Nat.gcd_comm u v, Nat.gcd_rec v u, Nat.gcd_comm])
              have hpt : (u : Int).tmod (v : Int) = ((u % v : Nat) : Int) := rfl
              generalize u % v = r at *
              go_wp2
              go_quiet (fail)
              go_wp2
              go_roundw
              case rel => exact ⟨v, r, rfl, rfl, HR.out, hv, by omega, _, _, _, _, _, _, HC4.out.drewN _⟩
              case measure => simp [intOf]; omega
        · by_cases hps : Small (p : Int)
          · have hqs : ¬ Small (q : Int) := fun h => hbig ⟨hps, h⟩
            clear hbig
            have e1 := iv_small HP3.out hps
            unfold smallV at e1
            obtain ⟨rfl, rfl, rfl, rfl, rfl⟩ : s1 = (p : Int) ∧ b1 = false ∧ a1 = none ∧ n1 = 0 ∧ c1 = 0 := by simpa using e1
            clear e1
            obtain ⟨ad2, rfl, rfl⟩ := iv_great HQ3.out hqs
            clear hps hqs
            go_wp2_with fail
            refine hqr.mono ?_
            rintro e w4 ⟨v1, v2, rfl, hv1, hv2, hb4⟩
            rw [HM.out] at hv2
            have HX4 := Lib.hid (HX3.out.far hb4)
            have HQ4 := Lib.hid (HQ3.out.far hb4)
            have HV2 := Lib.hid hv2
            obtain ⟨s3, b3, a3, n3, c3, rfl⟩ := iv_form hv1
            obtain ⟨s4, b4, a4, n4, c4, rfl⟩ := iv_form hv2
            have hal : Below w4.heap.size w4 ((w4.alloc (.cells #[.int .i64 s3, .bool b3, .slice a3 n3 c3] 147)).alloc (.cells #[.int .i64 s4, .bool b4, .slice a4 n4 c4] 147)) := below2 w4 _ _
            have HX5 := Lib.hid (HX4.out.far hal)
            have HQ5 := Lib.hid (HQ4.out.far hal)
            have HV5 := Lib.hid (HV2.out.far hal)
            have HN5 := Lib.hid (new_second w4 (.cells #[.int .i64 s3, .bool b3, .slice a3 n3 c3] 147) (.cells #[.int .i64 s4, .bool b4, .slice a4 n4 c4] 147))
            have hlt4 := lt_of_heap HX4.out.hr
            have hH : w.heap.size + 3 < w4.heap.size + 1 := by omega
            clear hqr hv1 hv2 hb4 hal k0 k1 k2 l0 l1 l2 fk fl HX3 HP3 HQ3 HX4 HQ4 HV2
            go_wp2_with fail
            generalize ((w4.alloc (.cells #[.int .i64 s3, .bool b3, .slice a3 n3 c3] 147)).alloc (.cells #[.int .i64 s4, .bool b4, .slice a4 n4 c4] 147)) = w5 at *
            generalize w4.heap.size + 1 = H at *
            have hne1 : H ≠ w.heap.size := by omega
            have hne2 : H ≠ w.heap.size + 1 := by omega
            obtain ⟨⟨k0, k1, k2⟩, ⟨l0, l1, l2⟩, fk, fl⟩ := HX5.out.cells
            obtain ⟨h0, h1, h2⟩ : w5.cell? ⟨H, 0, none⟩ = some (.int .i64 s4) ∧ w5.cell? ⟨H, 1, none⟩ = some (.bool b4) ∧ w5.cell? ⟨H, 2, none⟩ = some (.slice a4 n4 c4) := ⟨heap_cell HN5.out 0, heap_cell HN5.out 1, heap_cell HN5.out 2⟩
            go_region
            all_goals go_wp2
            all_goals simp only [← World.setCell_drew]
            go_roundg (p % q)
            case rel => exact gr_end HX5.out.drew HQ5.out.drew HV5.out.drew HR.out FQ.out FR.out rfl
            case measure => exact hlt
          · clear hbig
            by_cases hqs : Small (q : Int)
            · skip
              obtain ⟨ad1, rfl, rfl⟩ := iv_great HP3.out hps
              have e2 := iv_small HQ3.out hqs
              unfold smallV at e2
              obtain ⟨rfl, rfl, rfl, rfl, rfl⟩ : s2 = (q : Int) ∧ b2 = false ∧ a2 = none ∧ n2 = 0 ∧ c2 = 0 := by simpa using e2
              clear e2
              clear hps hqs
              go_wp2_with fail
              refine hqr.mono ?_
              rintro e w4 ⟨v1, v2, rfl, hv1, hv2, hb4⟩
              rw [HM.out] at hv2
              have HX4 := Lib.hid (HX3.out.far hb4)
              have HQ4 := Lib.hid (HQ3.out.far hb4)
              have HV2 := Lib.hid hv2
              obtain ⟨s3, b3, a3, n3, c3, rfl⟩ := iv_form hv1
              obtain ⟨s4, b4, a4, n4, c4, rfl⟩ := iv_form hv2
              have hal : Below w4.heap.size w4 ((w4.alloc (.cells #[.int .i64 s3, .bool b3, .slice a3 n3 c3] 147)).alloc (.cells #[.int .i64 s4, .bool b4, .slice a4 n4 c4] 147)) := below2 w4 _ _
              have HX5 := Lib.hid (HX4.out.far hal)
              have HQ5 := Lib.hid (HQ4.out.far hal)
              have HV5 := Lib.hid (HV2.out.far hal)
              have HN5 := Lib.hid (new_second w4 (.cells #[.int .i64 s3, .bool b3, .slice a3 n3 c3] 147) (.cells #[.int .i64 s4, .bool b4, .slice a4 n4 c4] 147))
              have hlt4 := lt_of_heap HX4.out.hr
              have hH : w.heap.size + 3 < w4.heap.size + 1 := by omega
              clear hqr hv1 hv2 hb4 hal k0 k1 k2 l0 l1 l2 fk fl HX3 HP3 HQ3 HX4 HQ4 HV2
              go_wp2_with fail
              generalize ((w4.alloc (.cells #[.int .i64 s3, .bool b3, .slice a3 n3 c3] 147)).alloc (.cells #[.int .i64 s4, .bool b4, .slice a4 n4 c4] 147)) = w5 at *
              generalize w4.heap.size + 1 = H at *
              have hne1 : H ≠ w.heap.size := by omega
              have hne2 : H ≠ w.heap.size + 1 := by omega
              obtain ⟨⟨k0, k1, k2⟩, ⟨l0, l1, l2⟩, fk, fl⟩ := HX5.out.cells
              obtain ⟨h0, h1, h2⟩ : w5.cell? ⟨H, 0, none⟩ = some (.int .i64 s4) ∧ w5.cell? ⟨H, 1, none⟩ = some (.bool b4) ∧ w5.cell? ⟨H, 2, none⟩ = some (.slice a4 n4 c4) := ⟨heap_cell HN5.out 0, heap_cell HN5.out 1, heap_cell HN5.out 2⟩
              go_region
              all_goals go_wp2
              all_goals simp only [← World.setCell_drew]
              go_roundg (p % q)
              case rel => exact gr_end HX5.out.drew HQ5.out.drew HV5.out.drew HR.out FQ.out FR.out rfl
              case measure => exact hlt
            · skip
              obtain ⟨ad1, rfl, rfl⟩ := iv_great HP3.out hps
              clear hps hqs
              go_wp2_with fail
              refine hqr.mono ?_
              rintro e w4 ⟨v1, v2, rfl, hv1, hv2, hb4⟩
              rw [HM.out] at hv2
              have HX4 := Lib.hid (HX3.out.far hb4)
              have HQ4 := Lib.hid (HQ3.out.far hb4)
              have HV2 := Lib.hid hv2
              obtain ⟨s3, b3, a3, n3, c3, rfl⟩ := iv_form hv1
              obtain ⟨s4, b4, a4, n4, c4, rfl⟩ := iv_form hv2
              have hal : Below w4.heap.size w4 ((w4.alloc (.cells #[.int .i64 s3, .bool b3, .slice a3 n3 c3] 147)).alloc (.cells #[.int .i64 s4, .bool b4, .slice a4 n4 c4] 147)) := below2 w4 _ _
              have HX5 := Lib.hid (HX4.out.far hal)
              have HQ5 := Lib.hid (HQ4.out.far hal)
              have HV5 := Lib.hid (HV2.out.far hal)
              have HN5 := Lib.hid (new_second w4 (.cells #[.int .i64 s3, .bool b3, .slice a3 n3 c3] 147) (.cells #[.int .i64 s4, .bool b4, .slice a4 n4 c4] 147))
              have hlt4 := lt_of_heap HX4.out.hr
              have hH : w.heap.size + 3 < w4.heap.size + 1 := by omega
              clear hqr hv1 hv2 hb4 hal k0 k1 k2 l0 l1 l2 fk fl HX3 HP3 HQ3 HX4 HQ4 HV2
              go_wp2_with fail
              generalize ((w4.alloc (.cells #[.int .i64 s3, .bool b3, .slice a3 n3 c3] 147)).alloc (.cells #[.int .i64 s4, .bool b4, .slice a4 n4 c4] 147)) = w5 at *
              generalize w4.heap.size + 1 = H at *
              have hne1 : H ≠ w.heap.size := by omega
              have hne2 : H ≠ w.heap.size + 1 := by omega
              obtain ⟨⟨k0, k1, k2⟩, ⟨l0, l1, l2⟩, fk, fl⟩ := HX5.out.cells
              obtain ⟨h0, h1, h2⟩ : w5.cell? ⟨H, 0, none⟩ = some (.int .i64 s4) ∧ w5.cell? ⟨H, 1, none⟩ = some (.bool b4) ∧ w5.cell? ⟨H, 2, none⟩ = some (.slice a4 n4 c4) := ⟨heap_cell HN5.out 0, heap_cell HN5.out 1, heap_cell HN5.out 2⟩
              go_region
              all_goals go_wp2
              all_goals simp only [← World.setCell_drew]
              go_roundg (p % q)
              case rel => exact gr_end HX5.out.drew HQ5.out.drew HV5.out.drew HR.out FQ.out FR.out rfl
              case measure => exact hlt
end
end Go.Proofs.YthefknoicelhaaaGreatDoor
namespace Go.Proofs.YthefknoicelhaaaGreatDoor
open Go.RowKit Nmx

section
set_option maxRecDepth 100000
set_option maxHeartbeats 4000000


theorem gcdOk_any {n d : Int} (fa : Fit n) (fb : Fit d) : GcdOk n d := fun x y W hx hy => gcd_any x y n d W hx hy fa fb
end
end Go.Proofs.YthefknoicelhaaaGreatDoor
/- Rat.Neg, Abs, Sub, Mul, Div of package exact. -/
namespace Go.Proofs.YthefknoicelhaaaGreatDoor
open Go.RowKit Nmx

end Go.Proofs.YthefknoicelhaaaGreatDoor
namespace Go.Proofs.YthefknoicelhaaaGreatDoor
open Go.RowKit Nmx

end Go.Proofs.YthefknoicelhaaaGreatDoor

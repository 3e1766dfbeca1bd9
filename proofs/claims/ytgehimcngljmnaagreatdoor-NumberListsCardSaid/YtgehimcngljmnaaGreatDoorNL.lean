/- Rat.Add of package exact. -/
import Derived.Test.YtgehimcngljmnaaGreatDoorNK
import Derived.Deep.DeepCutAuto
namespace Go.Proofs.YtgehimcngljmnaaGreatDoor
open Go.RowKit Nmx

/-- Quotient does what it should at n and d -/
def QuotOk (n d : Int) : Prop := ∀ (x y : Value) (W : World), IV W x n → IV W y d → Calls Tryz.prog 66 #[x, y] W (GetsQ (Rat.divInt n d) W)
theorem quotOk_small {n d : Int} (hn : Small n) (hd : Small d) (h0 : 0 < d) : QuotOk n d := fun x y W hx hy => by
  have := iv_small hx hn
  subst this
  have := iv_small hy hd
  subst this
  by_cases h1 : d = 1
  · subst h1
    have h := quotient_one W hn
    rw [show Rat.divInt n 1 = (n : Rat) from by rw [show (1 : Int) = ((1 : Nat) : Int) from rfl, Rat.divInt_ofNat, Rat.mkRat_one]]
    exact h
  · exact quotient_pos W hn hd (by omega)
/-- sizes of rational numbers -/
def RS (k : Nat) (q : Rat) : Prop := q.num.natAbs < BB ^ k ∧ q.den < BB ^ k
theorem bb_mul {a b k l : Nat} (ha : a < BB ^ k) (hb : b < BB ^ l) : a * b < BB ^ (k + l) := by
  rw [Nat.pow_add]
  rcases Nat.eq_zero_or_pos b with h | h
  · subst h; rw [Nat.mul_zero]; exact Nat.mul_pos (BBp_pos _) (BBp_pos _)
  · exact Nat.mul_lt_mul_of_lt_of_le ha (Nat.le_of_lt hb) (by omega)
theorem bb_le {k l : Nat} (h : k ≤ l) : BB ^ k ≤ BB ^ l := Nat.pow_le_pow_right BB_pos h
theorem fit_of {z : Int} {k : Nat} (h : z.natAbs < BB ^ k) (hk : k ≤ 1000) : Fit z := by
  obtain ⟨m, hm⟩ : ∃ m, k + m = 1000 := ⟨1000 - k, by omega⟩
  unfold Fit
  rw [← hm]
  exact Nat.lt_of_lt_of_le h (bb_le (Nat.le_add_right _ _))
theorem fit_sum {a b : Int} {k : Nat} (ha : a.natAbs < BB ^ k) (hb : b.natAbs < BB ^ k) : (a + b).natAbs < BB ^ (k + 1) := by
  have h1 := Int.natAbs_add_le a b
  have h2 : BB ^ (k + 1) = BB ^ k * BB := Nat.pow_succ ..
  have h3 : BB ^ k * 2 ≤ BB ^ k * BB := Nat.mul_le_mul_left _ (by rw [BB_eq]; omega)
  omega
theorem add_divInt (p q : Rat) : p + q = Rat.divInt (p.num * q.den + q.num * p.den) (p.den * q.den) := by
  rw [Rat.add_def', ← Rat.divInt_ofNat, Int.natCast_mul]
theorem mul_divInt (p q : Rat) : p * q = Rat.divInt (p.num * q.num) (p.den * q.den) := by
  rw [Rat.mul_def', ← Rat.divInt_ofNat, Int.natCast_mul]
theorem int_of_den {p : Rat} (h : p.den = 1) : p = (p.num : Rat) := by
  apply Rat.ext
  · rw [Rat.num_intCast]
  · rw [Rat.den_intCast, h]
/-- two rational numbers that came in, in blocks B and B + 1, and a result in block B + 2 -/
structure TwoR (w wx : World) (x0 x1 x2 x3 x4 x5 y0 y1 y2 y3 y4 y5 : Value) : Prop where
  ha : wx.heap[w.heap.size]? = some (.cells #[x0, x1, x2, x3, x4, x5] 63 (0, 0))
  hb : wx.heap[w.heap.size + 1]? = some (.cells #[y0, y1, y2, y3, y4, y5] 63 (0, 0))
  hr : wx.heap[w.heap.size + 2]? = some (.cells #[.int .i64 0, .bool false, .slice none 0 0, .int .i64 0, .bool false, .slice none 0 0] 63 (0, 0))
  bel : Below w.heap.size w wx
theorem TwoR.far {w wx w1 : World} {x0 x1 x2 x3 x4 x5 y0 y1 y2 y3 y4 y5 : Value} (h : TwoR w wx x0 x1 x2 x3 x4 x5 y0 y1 y2 y3 y4 y5) (hb : Below wx.heap.size wx w1) : TwoR w w1 x0 x1 x2 x3 x4 x5 y0 y1 y2 y3 y4 y5 :=
  ⟨(hb.block _ (lt_of_heap h.ha)).trans h.ha, (hb.block _ (lt_of_heap h.hb)).trans h.hb, (hb.block _ (lt_of_heap h.hr)).trans h.hr, h.bel.trans (hb.mono h.bel.size)⟩
theorem TwoR.drew {w wx : World} {x0 x1 x2 x3 x4 x5 y0 y1 y2 y3 y4 y5 : Value} (h : TwoR w wx x0 x1 x2 x3 x4 x5 y0 y1 y2 y3 y4 y5) : TwoR w wx.drew x0 x1 x2 x3 x4 x5 y0 y1 y2 y3 y4 y5 := ⟨h.ha, h.hb, h.hr, h.bel.drew⟩
theorem TwoR.cells {w wx : World} {x0 x1 x2 x3 x4 x5 y0 y1 y2 y3 y4 y5 : Value} (h : TwoR w wx x0 x1 x2 x3 x4 x5 y0 y1 y2 y3 y4 y5) : wx.cell? ⟨w.heap.size, 0, none⟩ = some x0 ∧ wx.cell? ⟨w.heap.size, 1, none⟩ = some x1 ∧ wx.cell? ⟨w.heap.size, 2, none⟩ = some x2 ∧ wx.cell? ⟨w.heap.size, 3, none⟩ = some x3 ∧ wx.cell? ⟨w.heap.size, 4, none⟩ = some x4 ∧ wx.cell? ⟨w.heap.size, 5, none⟩ = some x5 ∧ wx.cell? ⟨w.heap.size + 1, 0, none⟩ = some y0 ∧ wx.cell? ⟨w.heap.size + 1, 1, none⟩ = some y1 ∧ wx.cell? ⟨w.heap.size + 1, 2, none⟩ = some y2 ∧ wx.cell? ⟨w.heap.size + 1, 3, none⟩ = some y3 ∧ wx.cell? ⟨w.heap.size + 1, 4, none⟩ = some y4 ∧ wx.cell? ⟨w.heap.size + 1, 5, none⟩ = some y5 :=
  ⟨heap_cell h.ha 0, heap_cell h.ha 1, heap_cell h.ha 2, heap_cell h.ha 3, heap_cell h.ha 4, heap_cell h.ha 5, heap_cell h.hb 0, heap_cell h.hb 1, heap_cell h.hb 2, heap_cell h.hb 3, heap_cell h.hb 4, heap_cell h.hb 5⟩
theorem TwoR.new (w : World) (x0 x1 x2 x3 x4 x5 y0 y1 y2 y3 y4 y5 : Value) (o : Obj) (ho : o = .cells #[.int .i64 0, .bool false, .slice none 0 0, .int .i64 0, .bool false, .slice none 0 0] 63) : TwoR w (((w.alloc (.cells #[x0, x1, x2, x3, x4, x5] 63)).alloc (.cells #[y0, y1, y2, y3, y4, y5] 63)).alloc o) x0 x1 x2 x3 x4 x5 y0 y1 y2 y3 y4 y5 := by
  subst ho
  obtain ⟨h1, h2, h3⟩ := new3 w (.cells #[x0, x1, x2, x3, x4, x5] 63) (.cells #[y0, y1, y2, y3, y4, y5] 63) (.cells #[.int .i64 0, .bool false, .slice none 0 0, .int .i64 0, .bool false, .slice none 0 0] 63)
  exact ⟨h1, h2, h3, below3 w _ _ _⟩
theorem denI_one {q : Rat} (h : q.den = 1) : denI q = 0 := by unfold denI; rw [if_pos h]

section
set_option maxRecDepth 100000
set_option maxHeartbeats 4000000
theorem ratAdd_any {k l : Nat} (x y : Value) (p q : Rat) (w : World) (hx : RV w x p) (hy : RV w y q) (hp : RS k p) (hq : RS l q) (hkl : k + l ≤ 900) (hQ : QuotOk (p.num * q.den + q.num * p.den) (p.den * q.den)) : Calls Tryz.prog 82 #[x, y] w (GetsQ (p + q) w) := by
  have hip := fun W (hW : Below w.heap.size w W) => ratIsInt_any x p W (hx.far hW)
  have hiq := fun W (hW : Below w.heap.size w W) => ratIsInt_any y q W (hy.far hW)
  have hdp := fun W (hW : Below w.heap.size w W) => ratDen_any x p W (hx.far hW)
  have hdq := fun W (hW : Below w.heap.size w W) => ratDen_any y q W (hy.far hW)
  obtain ⟨s1, b1, a1, n1, c1, s2, b2, a2, n2, c2, rfl, h1, h2⟩ := rv_form hx
  obtain ⟨s3, b3, a3, n3, c3, s4, b4, a4, n4, c4, rfl, h3, h4⟩ := rv_form hy
  have H1 := Lib.hid h1
  have H3 := Lib.hid h3
  have HT0 := Lib.hid (TwoR.new w (.int .i64 s1) (.bool b1) (.slice a1 n1 c1) (.int .i64 s2) (.bool b2) (.slice a2 n2 c2) (.int .i64 s3) (.bool b3) (.slice a3 n3 c3) (.int .i64 s4) (.bool b4) (.slice a4 n4 c4) _ rfl)
  have HPF := Lib.hid hp
  have HQF := Lib.hid hq
  have HQ := Lib.hid hQ
  have hip0 := hip _ HT0.out.bel
  clear hx hy h1 h2 h3 h4 hp hq hQ
  go_enter Tryz.func82, Tryz.ntmps82
  go_upto_region 1 with fail
  go_cut [10] (fun cv wx => cv = .bool (decide (p.den = 1) && decide (q.den = 1)) ∧ TwoR w wx (.int .i64 s1) (.bool b1) (.slice a1 n1 c1) (.int .i64 s2) (.bool b2) (.slice a2 n2 c2) (.int .i64 s3) (.bool b3) (.slice a3 n3 c3) (.int .i64 s4) (.bool b4) (.slice a4 n4 c4))
  case first =>
    go_wp2_with fail
    refine hip0.mono ?_
    rintro e w1 ⟨rfl, hb1⟩
    have HT1 := Lib.hid (HT0.out.far hb1)
    have hiq1 := hiq w1 HT1.out.bel
    obtain ⟨y0, y1, y2, y3, y4, y5, z0, z1, z2, z3, z4, z5⟩ := HT1.out.cells
    clear hb1 hip0
    by_cases hd : p.den = 1
    · have hdb : decide (p.den = 1) = true := by simpa using hd
      go_wp2_with fail
      refine hiq1.mono ?_
      rintro e w2 ⟨rfl, hb2⟩
      have HT2 := Lib.hid (HT1.out.far hb2)
      go_wp2
      go_meet
      exact ⟨by rw [hdb]; rfl, HT2.out⟩
    · have hdb : decide (p.den = 1) = false := by simpa using hd
      go_wp2
      go_meet
      exact ⟨by rw [hdb]; rfl, HT1.out⟩
  case rest =>
    obtain ⟨rfl, ht⟩ := hcut
    have HT := Lib.hid ht
    obtain ⟨y0, y1, y2, y3, y4, y5, z0, z1, z2, z3, z4, z5⟩ := ht.cells
    have hR := heap_cell ht.hr
    clear ht hip0 HT0
    by_cases hd : p.den = 1 ∧ q.den = 1
    · have hdb : (decide (p.den = 1) && decide (q.den = 1)) = true := by simp [hd.1, hd.2]
      have HE : Hid ((p + q).num = p.num + q.num ∧ denI (p + q) = 0) := Lib.hid (by
        have e : p + q = ((p.num + q.num : Int) : Rat) := by rw [Rat.intCast_add, ← int_of_den hd.1, ← int_of_den hd.2]
        exact ⟨by rw [e, Rat.num_intCast], denI_one (by rw [e, Rat.den_intCast])⟩)
      have had := add_any _ _ p.num q.num wc (H1.out.far HT.out.bel) (H3.out.far HT.out.bel) (fit_of HPF.out.1 (by omega)) (fit_of HQF.out.1 (by omega))
      clear hR
      go_wp2_with fail
      refine had.mono ?_
      rintro e w3 ⟨v3, rfl, hv3, hb3⟩
      have HV3 := Lib.hid hv3
      obtain ⟨s5, b5, a5, n5, c5, rfl⟩ := iv_form hv3
      have HT3 := Lib.hid (HT.out.far hb3)
      obtain ⟨⟨r0, r1, r2, r3, r4, r5⟩, fr⟩ := ResR.cells HT3.out.hr
      clear hv3 hb3 had y0 y1 y2 y3 y4 y5 z0 z1 z2 z3 z4 z5 HT
      go_wp2
      exact end_rat Tryz.results82 rfl rfl HT3.out.hr (by rw [HE.out.1]; exact HV3.out) (by rw [HE.out.2]; exact zeroIV _) HT3.out.bel (by omega)
    · have hdb : (decide (p.den = 1) && decide (q.den = 1)) = false := by
        cases h : (decide (p.den = 1) && decide (q.den = 1)) with
        | false => rfl
        | true => simp only [Bool.and_eq_true, decide_eq_true_eq] at h; exact absurd h hd
      clear hR
      have F1 : Hid (Fit p.num) := Lib.hid (fit_of HPF.out.1 (by omega))
      have F2 : Hid (Fit (q.den : Int)) := Lib.hid (fit_of (k := l) (by rw [Int.natAbs_natCast]; exact HQF.out.2) (by omega))
      have F3 : Hid (Fit q.num) := Lib.hid (fit_of HQF.out.1 (by omega))
      have F4 : Hid (Fit (p.den : Int)) := Lib.hid (fit_of (k := k) (by rw [Int.natAbs_natCast]; exact HPF.out.2) (by omega))
      have F5 : Hid (Fit (p.num * q.den)) := Lib.hid (fit_of (k := k + l) (by rw [Int.natAbs_mul, Int.natAbs_natCast]; exact bb_mul HPF.out.1 HQF.out.2) (by omega))
      have F6 : Hid (Fit (q.num * p.den)) := Lib.hid (fit_of (k := l + k) (by rw [Int.natAbs_mul, Int.natAbs_natCast]; exact bb_mul HQF.out.1 HPF.out.2) (by omega))
      have HAD := Lib.hid (add_divInt p q)
      clear y0 y1 y2 y3 y4 y5 z0 z1 z2 z3 z4 z5 hip hiq
      have hne1 : w.heap.size ≠ w.heap.size + 1 + 1 := by omega
      have hne2 : w.heap.size + 1 ≠ w.heap.size + 1 + 1 := by omega
      have K0 := Lib.hid HT.out.drew.cells
      go_wp2
      go_region_held3 (fun w' => w'.cell? ⟨w.heap.size, 0, none⟩ = some (.int .i64 s1) ∧ w'.cell? ⟨w.heap.size, 1, none⟩ = some (.bool b1) ∧ w'.cell? ⟨w.heap.size, 2, none⟩ = some (.slice a1 n1 c1) ∧ w'.cell? ⟨w.heap.size, 3, none⟩ = some (.int .i64 s2) ∧ w'.cell? ⟨w.heap.size, 4, none⟩ = some (.bool b2) ∧ w'.cell? ⟨w.heap.size, 5, none⟩ = some (.slice a2 n2 c2) ∧ w'.cell? ⟨w.heap.size + 1, 0, none⟩ = some (.int .i64 s3) ∧ w'.cell? ⟨w.heap.size + 1, 1, none⟩ = some (.bool b3) ∧ w'.cell? ⟨w.heap.size + 1, 2, none⟩ = some (.slice a3 n3 c3) ∧ w'.cell? ⟨w.heap.size + 1, 3, none⟩ = some (.int .i64 s4) ∧ w'.cell? ⟨w.heap.size + 1, 4, none⟩ = some (.bool b4) ∧ w'.cell? ⟨w.heap.size + 1, 5, none⟩ = some (.slice a4 n4 c4))
        (first | with_reducible exact K9.out | with_reducible exact K8.out | with_reducible exact K7.out | with_reducible exact K6.out | with_reducible exact K5.out | with_reducible exact K4.out | with_reducible exact K3.out | with_reducible exact K2.out | with_reducible exact K1.out | with_reducible exact K0.out | (obtain ⟨k0, k1, k2, k3, k4, k5, l0, l1, l2, l3, l4, l5⟩ := K9.out; exact ⟨(cell_set6 hne1 _ _ _ _ _ _ 0).trans k0, (cell_set6 hne1 _ _ _ _ _ _ 1).trans k1, (cell_set6 hne1 _ _ _ _ _ _ 2).trans k2, (cell_set6 hne1 _ _ _ _ _ _ 3).trans k3, (cell_set6 hne1 _ _ _ _ _ _ 4).trans k4, (cell_set6 hne1 _ _ _ _ _ _ 5).trans k5, (cell_set6 hne2 _ _ _ _ _ _ 0).trans l0, (cell_set6 hne2 _ _ _ _ _ _ 1).trans l1, (cell_set6 hne2 _ _ _ _ _ _ 2).trans l2, (cell_set6 hne2 _ _ _ _ _ _ 3).trans l3, (cell_set6 hne2 _ _ _ _ _ _ 4).trans l4, (cell_set6 hne2 _ _ _ _ _ _ 5).trans l5⟩))
        (first
          | (go_at_call 104
             first
          | (with_reducible refine (hdq _ HT.out.drew.bel).mono ?_
             rintro e u1 ⟨v1, rfl, hv1, hb1⟩
             have T1 := Lib.hid (HT.out.drew.far hb1)
             have K1 := Lib.hid T1.out.cells
             have V1 := Lib.hid hv1
             obtain ⟨e1a, e1b, e1c, e1d, e1f, rfl⟩ := iv_form hv1)
          | (with_reducible refine (hdp _ T2.out.bel).mono ?_
             rintro e u3 ⟨v3, rfl, hv3, hb3⟩
             have T3 := Lib.hid (T2.out.far hb3)
             have K3 := Lib.hid T3.out.cells
             have V3 := Lib.hid hv3
             have V2a := Lib.hid (V2.out.far hb3)
             obtain ⟨e3a, e3b, e3c, e3d, e3f, rfl⟩ := iv_form hv3)
          | (with_reducible refine (hdp _ T5.out.bel).mono ?_
             rintro e u6 ⟨v6, rfl, hv6, hb6⟩
             have T6 := Lib.hid (T5.out.far hb6)
             have K6 := Lib.hid T6.out.cells
             have V6 := Lib.hid hv6
             have V5a := Lib.hid (V5.out.far hb6)
             obtain ⟨e6a, e6b, e6c, e6d, e6f, rfl⟩ := iv_form hv6)
          | (with_reducible refine (hdq _ T6.out.bel).mono ?_
             rintro e u7 ⟨v7, rfl, hv7, hb7⟩
             have T7 := Lib.hid (T6.out.far hb7)
             have K7 := Lib.hid T7.out.cells
             have V7 := Lib.hid hv7
             have V5b := Lib.hid (V5a.out.far hb7)
             have V6a := Lib.hid (V6.out.far hb7)
             obtain ⟨e7a, e7b, e7c, e7d, e7f, rfl⟩ := iv_form hv7))
          | (go_at_call 100
             first
          | (with_reducible refine (mul_any _ _ p.num q.den _ (H1.out.far T1.out.bel) V1.out F1.out F2.out).mono ?_
             rintro e u2 ⟨v2, rfl, hv2, hb2⟩
             have T2 := Lib.hid (T1.out.far hb2)
             have K2 := Lib.hid T2.out.cells
             have V2 := Lib.hid hv2
             obtain ⟨e2a, e2b, e2c, e2d, e2f, rfl⟩ := iv_form hv2)
          | (with_reducible refine (mul_any _ _ q.num p.den _ (H3.out.far T3.out.bel) V3.out F3.out F4.out).mono ?_
             rintro e u4 ⟨v4, rfl, hv4, hb4⟩
             have T4 := Lib.hid (T3.out.far hb4)
             have K4 := Lib.hid T4.out.cells
             have V4 := Lib.hid hv4
             have V2b := Lib.hid (V2a.out.far hb4)
             obtain ⟨e4a, e4b, e4c, e4d, e4f, rfl⟩ := iv_form hv4)
          | (with_reducible refine (mul_any _ _ p.den q.den _ V6a.out V7.out F4.out F2.out).mono ?_
             rintro e u8 ⟨v8, rfl, hv8, hb8⟩
             have T8 := Lib.hid (T7.out.far hb8)
             have K8 := Lib.hid T8.out.cells
             have V8 := Lib.hid hv8
             have V5c := Lib.hid (V5b.out.far hb8)
             obtain ⟨e8a, e8b, e8c, e8d, e8f, rfl⟩ := iv_form hv8))
          | (go_at_call 136
             refine (add_any _ _ (p.num * q.den) (q.num * p.den) _ V2b.out V4.out F5.out F6.out).mono ?_
             rintro e u5 ⟨v5, rfl, hv5, hb5⟩
             have T5 := Lib.hid (T4.out.far hb5)
             have K5 := Lib.hid T5.out.cells
             have V5 := Lib.hid hv5
             obtain ⟨e5a, e5b, e5c, e5d, e5f, rfl⟩ := iv_form hv5)
          | (go_at_call 66
             refine (HQ.out _ _ _ V5c.out V8.out).mono ?_
             rintro e u9 ⟨v9, rfl, hv9, hb9⟩
             have T9 := Lib.hid (T8.out.far hb9)
             have K9 := Lib.hid T9.out.cells
             have V9 := Lib.hid hv9
             obtain ⟨g1, g2, g3, g4, g5, g6, g7, g8, g9, g10, rfl, hg1, hg2⟩ := rv_form hv9
             have HG1 := Lib.hid hg1
             have HG2 := Lib.hid hg2
             obtain ⟨⟨r0, r1, r2, r3, r4, r5⟩, fr⟩ := ResR.cells T9.out.hr))
      go_wp2
      rw [HAD.out]
      exact end_rat Tryz.results82 rfl rfl T9.out.hr HG1.out HG2.out T9.out.bel (by omega)
end
end Go.Proofs.YtgehimcngljmnaaGreatDoor
/- number.Add of package number. -/
namespace Go.Proofs.YtgehimcngljmnaaGreatDoor
open Go.RowKit Nmx

section
set_option maxRecDepth 100000
set_option maxHeartbeats 4000000
theorem binary_add (s t : ByteArray) (p q r : Rat) (w : World) (hs : s.size ≤ 1000000) (ht : t.size ≤ 1000000) (h : Env w) (hp : ratF s.data.toList = some p) (hq : ratF t.data.toList = some q) (hg : GcdAt s.data.toList) (hg' : GcdAt t.data.toList)
    (hf : ∀ x y W, RV W x p → RV W y q → Calls Tryz.prog 82 #[x, y] W (GetsQ r W)) (hsz : (decI r.num).length + (decI r.den).length ≤ 1000000000) :
    Calls Tryz.prog 28 #[.string s, .string t] w fun e w' => e = .returned (.string ⟨(textQ r).toArray⟩) ∧ Below w.heap.size w w' := by
  have hpa := pair_any s t w hs ht h hg hg'
  rw [hp, hq] at hpa
  have HE := Lib.hid h
  clear h hg hg' hp hq hs ht
  go_enter Tryz.func28, Tryz.ntmps28
  go_wp2_with fail
  go_enter Tryz.func81, Tryz.ntmps81
  go_wp2_with fail
  refine hpa.mono ?_
  rintro e w1 ⟨v1, v2, rfl, hv1, hv2, hb1⟩
  have HV1 := Lib.hid hv1
  have HV2 := Lib.hid hv2
  have HB1 := Lib.hid hb1
  have hff := fun (W : World) (hW : Below w1.heap.size w1 W) => hf v1 v2 W (HV1.out.far hW) (HV2.out.far hW)
  obtain ⟨s1, b1, a1, n1, c1, s2, b2, a2, n2, c2, rfl, -, -⟩ := rv_form hv1
  obtain ⟨s3, b3, a3, n3, c3, s4, b4, a4, n4, c4, rfl, -, -⟩ := rv_form hv2
  have HB0 := Lib.hid (below2 w1 (.cells #[.int .i64 s1, .bool b1, .slice a1 n1 c1, .int .i64 s2, .bool b2, .slice a2 n2 c2] 63) (.cells #[.int .i64 s3, .bool b3, .slice a3 n3 c3, .int .i64 s4, .bool b4, .slice a4 n4 c4] 63))
  have hff0 := hff _ HB0.out
  clear hv1 hv2 hb1 hpa hf hff
  go_wp2_with fail
  refine hff0.mono ?_
  rintro e w2 ⟨v3, rfl, hv3, hb3⟩
  have HB2 := Lib.hid (HB1.out.trans ((HB0.out.trans (hb3.mono HB0.out.size)).mono HB1.out.size))
  have hst := ratString_any v3 r w2 hv3 (HE.out.far HB2.out) hsz
  clear hv3 hb3 hff0
  go_wp2_with fail
  refine hst.mono ?_
  rintro e w3 ⟨rfl, hb4⟩
  have HB3 := Lib.hid (HB2.out.trans (hb4.mono HB2.out.size))
  clear hb4 hst
  go_wp2
  go_ret
  exact ⟨rfl, HB3.out⟩
end
end Go.Proofs.YtgehimcngljmnaaGreatDoor
/- number.Valid; number.integers, divide, Quo, Rem at integers. -/
namespace Go.Proofs.YtgehimcngljmnaaGreatDoor
open Go.RowKit Nmx

theorem end_iib {fn : Func} {t t' t2 : Tmp} {bb : Bool} {Q : Ending → World → Prop} {a : Act} {w w2 : World} {R R' : Nat} {z z' s s' : Int} {b b' : Bool} {ao ao' : Option Addr} {n c n' c' : Nat} {x0 x1 x2 y0 y1 y2 : Value} (hres : fn.results = #[.cell t 58, .cell t' 58, .tmp t2]) (hd : a.defers = [])
    (ht : a.tmps.getD t undef = .pointer (some ⟨R, 0, none⟩)) (ht' : a.tmps.getD t' undef = .pointer (some ⟨R', 0, none⟩)) (ht2 : a.tmps.getD t2 undef = .bool bb)
    (hR : w2.heap[R]? = some (.cells #[x0, x1, x2] 58 (0, 0))) (hR' : w2.heap[R']? = some (.cells #[y0, y1, y2] 58 (0, 0))) (hne : R ≠ R')
    (hv : IV w2 (.agg #[.int .i64 s, .bool b, .slice ao n c]) z) (hv' : IV w2 (.agg #[.int .i64 s', .bool b', .slice ao' n' c']) z') (hb : Below w.heap.size w w2) (hRB : w.heap.size ≤ R) (hRB' : w.heap.size ≤ R')
    (hQ : ∀ w3 v v', IV w3 v z → IV w3 v' z' → Below w.heap.size w w3 → Q (.returned (.tuple #[v, v', .bool bb])) w3) :
    bodyPost Tryz.prog fn Q .ret a ((((((w2.setCell ⟨R, 0, none⟩ (.int .i64 s)).setCell ⟨R, 1, none⟩ (.bool b)).setCell ⟨R, 2, none⟩ (.slice ao n c)).setCell ⟨R', 0, none⟩ (.int .i64 s')).setCell ⟨R', 1, none⟩ (.bool b')).setCell ⟨R', 2, none⟩ (.slice ao' n' c')) := by
  have h3 := heap_set (heap_set (heap_set hR 0 (.int .i64 s)) 1 (.bool b)) 2 (.slice ao n c)
  have hiv := hv.set3 hR (.int .i64 s) (.bool b) (.slice ao n c)
  have hiv' := hv'.set3 hR (.int .i64 s) (.bool b) (.slice ao n c)
  have hR2 : (set3 w2 R (.int .i64 s) (.bool b) (.slice ao n c)).heap[R']? = some (.cells #[y0, y1, y2] 58 (0, 0)) := by
    unfold set3
    rw [Below.heap_setCell _ _ _ _ (Ne.symm hne), Below.heap_setCell _ _ _ _ (Ne.symm hne), Below.heap_setCell _ _ _ _ (Ne.symm hne)]
    exact hR'
  have hbl := ((hb.setCell (show w.heap.size ≤ (⟨R, 0, none⟩ : Addr).block from hRB) (.int .i64 s)).setCell (show w.heap.size ≤ (⟨R, 1, none⟩ : Addr).block from hRB) (.bool b)).setCell (show w.heap.size ≤ (⟨R, 2, none⟩ : Addr).block from hRB) (.slice ao n c)
  unfold set3 at hiv hiv' hR2
  generalize ((w2.setCell ⟨R, 0, none⟩ (.int .i64 s)).setCell ⟨R, 1, none⟩ (.bool b)).setCell ⟨R, 2, none⟩ (.slice ao n c) = w3 at *
  have g3 := heap_set (heap_set (heap_set hR2 0 (.int .i64 s')) 1 (.bool b')) 2 (.slice ao' n' c')
  have giv := hiv.set3 hR2 (.int .i64 s') (.bool b') (.slice ao' n' c')
  have giv' := hiv'.set3 hR2 (.int .i64 s') (.bool b') (.slice ao' n' c')
  have h4 : (set3 w3 R' (.int .i64 s') (.bool b') (.slice ao' n' c')).heap[R]? = w3.heap[R]? := by
    unfold set3
    rw [Below.heap_setCell _ _ _ _ hne, Below.heap_setCell _ _ _ _ hne, Below.heap_setCell _ _ _ _ hne]
  rw [h3] at h4
  have gbl := ((hbl.setCell (show w.heap.size ≤ (⟨R', 0, none⟩ : Addr).block from hRB') (.int .i64 s')).setCell (show w.heap.size ≤ (⟨R', 1, none⟩ : Addr).block from hRB') (.bool b')).setCell (show w.heap.size ≤ (⟨R', 2, none⟩ : Addr).block from hRB') (.slice ao' n' c')
  unfold set3 at giv giv' h4
  generalize ((w3.setCell ⟨R', 0, none⟩ (.int .i64 s')).setCell ⟨R', 1, none⟩ (.bool b')).setCell ⟨R', 2, none⟩ (.slice ao' n' c') = w4 at *
  have k0 := heap_cell h4 0
  have k1 := heap_cell h4 1
  have k2 := heap_cell h4 2
  have l0 := heap_cell g3 0
  have l1 := heap_cell g3 1
  have l2 := heap_cell g3 2
  simp at k0 k1 k2 l0 l1 l2
  refine bodyPost_ret (v := .tuple #[.agg #[.int .i64 s, .bool b, .slice ao n c], .agg #[.int .i64 s', .bool b', .slice ao' n' c'], .bool bb]) ?_ hd (hQ w4 _ _ giv giv' gbl)
  have ht1 : a.tmps[t]?.getD undef = .pointer (some ⟨R, 0, none⟩) := by simpa using ht
  have ht2' : a.tmps[t']?.getD undef = .pointer (some ⟨R', 0, none⟩) := by simpa using ht'
  have ht3 : a.tmps[t2]?.getD undef = .bool bb := by simpa using ht2
  simp [results, hres, go_sem, ht1, ht2', ht3, k0, k1, k2, l0, l1, l2]

/-- two rational numbers in blocks G and G + 1, two results in blocks B and B + 1 -/
structure IntsS (w wx : World) (G : Nat) (x0 x1 x2 x3 x4 x5 y0 y1 y2 y3 y4 y5 : Value) : Prop where
  ha : wx.heap[G]? = some (.cells #[x0, x1, x2, x3, x4, x5] 63 (0, 0))
  hb : wx.heap[G + 1]? = some (.cells #[y0, y1, y2, y3, y4, y5] 63 (0, 0))
  r1 : wx.heap[w.heap.size]? = some (.cells #[.int .i64 0, .bool false, .slice none 0 0] 58 (0, 0))
  r2 : wx.heap[w.heap.size + 1]? = some (.cells #[.int .i64 0, .bool false, .slice none 0 0] 58 (0, 0))
  bel : Below w.heap.size w wx
theorem IntsS.far {w wx w1 : World} {G : Nat} {x0 x1 x2 x3 x4 x5 y0 y1 y2 y3 y4 y5 : Value} (h : IntsS w wx G x0 x1 x2 x3 x4 x5 y0 y1 y2 y3 y4 y5) (hb : Below wx.heap.size wx w1) : IntsS w w1 G x0 x1 x2 x3 x4 x5 y0 y1 y2 y3 y4 y5 :=
  ⟨(hb.block _ (lt_of_heap h.ha)).trans h.ha, (hb.block _ (lt_of_heap h.hb)).trans h.hb, (hb.block _ (lt_of_heap h.r1)).trans h.r1, (hb.block _ (lt_of_heap h.r2)).trans h.r2, h.bel.trans (hb.mono h.bel.size)⟩
theorem IntsS.drew {w wx : World} {G : Nat} {x0 x1 x2 x3 x4 x5 y0 y1 y2 y3 y4 y5 : Value} (h : IntsS w wx G x0 x1 x2 x3 x4 x5 y0 y1 y2 y3 y4 y5) : IntsS w wx.drew G x0 x1 x2 x3 x4 x5 y0 y1 y2 y3 y4 y5 := ⟨h.ha, h.hb, h.r1, h.r2, h.bel.drew⟩
theorem IntsS.cells {w wx : World} {G : Nat} {x0 x1 x2 x3 x4 x5 y0 y1 y2 y3 y4 y5 : Value} (h : IntsS w wx G x0 x1 x2 x3 x4 x5 y0 y1 y2 y3 y4 y5) : wx.cell? ⟨G, 0, none⟩ = some x0 ∧ wx.cell? ⟨G, 1, none⟩ = some x1 ∧ wx.cell? ⟨G, 2, none⟩ = some x2 ∧ wx.cell? ⟨G, 3, none⟩ = some x3 ∧ wx.cell? ⟨G, 4, none⟩ = some x4 ∧ wx.cell? ⟨G, 5, none⟩ = some x5 ∧ wx.cell? ⟨G + 1, 0, none⟩ = some y0 ∧ wx.cell? ⟨G + 1, 1, none⟩ = some y1 ∧ wx.cell? ⟨G + 1, 2, none⟩ = some y2 ∧ wx.cell? ⟨G + 1, 3, none⟩ = some y3 ∧ wx.cell? ⟨G + 1, 4, none⟩ = some y4 ∧ wx.cell? ⟨G + 1, 5, none⟩ = some y5 :=
  ⟨heap_cell h.ha 0, heap_cell h.ha 1, heap_cell h.ha 2, heap_cell h.ha 3, heap_cell h.ha 4, heap_cell h.ha 5, heap_cell h.hb 0, heap_cell h.hb 1, heap_cell h.hb 2, heap_cell h.hb 3, heap_cell h.hb 4, heap_cell h.hb 5⟩
def IntsPost (za zb : Int) (w : World) (e : Ending) (w' : World) : Prop := ∃ v1 v2, e = .returned (.tuple #[v1, v2, .bool true]) ∧ IV w' v1 za ∧ IV w' v2 zb ∧ Below w.heap.size w w'
section
set_option maxRecDepth 100000
set_option maxHeartbeats 4000000
theorem numValid_any (s : ByteArray) (w : World) (hs : s.size ≤ 1000000) (h : Env w) (hg : GcdAt s.data.toList) : Calls Tryz.prog 49 #[.string s] w fun e w' => e = .returned (.bool (ratF s.data.toList).isSome) ∧ Below w.heap.size w w' := by
  have hp := parse_env s w hs h hg
  unfold ParsePost at hp
  generalize ratF s.data.toList = oq at *
  go_enter Tryz.func49, Tryz.ntmps49
  go_wp2_with fail
  refine hp.mono ?_
  rintro e w1 ⟨v, rfl, hv, hb1⟩
  obtain ⟨s1, b1, a1, n1, c1, s2, b2, a2, n2, c2, rfl, -, -⟩ := rv_form hv
  have HB := Lib.hid hb1
  clear hv hp hb1
  go_wp2
  go_ret
  exact ⟨rfl, HB.out.alloc HB.out.size _⟩
theorem integers_int (s t : ByteArray) (za zb : Int) (w : World) (hs : s.size ≤ 1000000) (ht : t.size ≤ 1000000) (h : Env w) (hp : ratF s.data.toList = some (za : Rat)) (hq : ratF t.data.toList = some (zb : Rat)) (hg : GcdAt s.data.toList) (hg' : GcdAt t.data.toList) :
    Calls Tryz.prog 96 #[.string s, .string t] w (IntsPost za zb w) := by
  have HB00 := Lib.hid (below2 w (.cells #[.int .i64 0, .bool false, .slice none 0 0] 58) (.cells #[.int .i64 0, .bool false, .slice none 0 0] 58))
  have hpa := pair_any s t _ hs ht (h.far HB00.out) hg hg'
  rw [hp, hq] at hpa
  have HN1 : Hid ((w.alloc (.cells #[.int .i64 0, .bool false, .slice none 0 0] 58)).alloc (.cells #[.int .i64 0, .bool false, .slice none 0 0] 58) |>.heap[w.heap.size]? = some (.cells #[.int .i64 0, .bool false, .slice none 0 0] 58 (0, 0))) := Lib.hid ((Below.heap_alloc _ _ _ (by simp)).trans (heap_alloc_new w _))
  have HN2 := Lib.hid (new_second w (.cells #[.int .i64 0, .bool false, .slice none 0 0] 58) (.cells #[.int .i64 0, .bool false, .slice none 0 0] 58))
  clear h hg hg' hp hq hs ht
  go_enter Tryz.func96, Tryz.ntmps96
  go_wp2_with fail
  refine hpa.mono ?_
  rintro e w1 ⟨v1, v2, rfl, hv1, hv2, hb1⟩
  have hnx := fun W (hW : Below w1.heap.size w1 W) => ratNum_any v1 (za : Rat) W (RV.far hv1 hW)
  have hny := fun W (hW : Below w1.heap.size w1 W) => ratNum_any v2 (zb : Rat) W (RV.far hv2 hW)
  have hix := fun W (hW : Below w1.heap.size w1 W) => ratIsInt_any v1 (za : Rat) W (RV.far hv1 hW)
  have hiy := fun W (hW : Below w1.heap.size w1 W) => ratIsInt_any v2 (zb : Rat) W (RV.far hv2 hW)
  simp only [Rat.num_intCast, Rat.den_intCast, decide_true] at hnx hny hix hiy
  obtain ⟨s1, b1, a1, n1, c1, s2, b2, a2, n2, c2, rfl, -, -⟩ := rv_form hv1
  obtain ⟨s3, b3, a3, n3, c3, s4, b4, a4, n4, c4, rfl, -, -⟩ := rv_form hv2
  have hsz := hb1.size
  have HBX := Lib.hid (below2 w1 (.cells #[.int .i64 s1, .bool b1, .slice a1 n1 c1, .int .i64 s2, .bool b2, .slice a2 n2 c2] 63) (.cells #[.int .i64 s3, .bool b3, .slice a3 n3 c3, .int .i64 s4, .bool b4, .slice a4 n4 c4] 63))
  have HI0 : Hid (IntsS w ((w1.alloc (.cells #[.int .i64 s1, .bool b1, .slice a1 n1 c1, .int .i64 s2, .bool b2, .slice a2 n2 c2] 63)).alloc (.cells #[.int .i64 s3, .bool b3, .slice a3 n3 c3, .int .i64 s4, .bool b4, .slice a4 n4 c4] 63)) w1.heap.size (.int .i64 s1) (.bool b1) (.slice a1 n1 c1) (.int .i64 s2) (.bool b2) (.slice a2 n2 c2) (.int .i64 s3) (.bool b3) (.slice a3 n3 c3) (.int .i64 s4) (.bool b4) (.slice a4 n4 c4)) := Lib.hid
    ⟨(Below.heap_alloc _ _ _ (by simp)).trans (heap_alloc_new w1 _), new_second w1 _ _, (HBX.out.block _ (by simp at hsz; omega)).trans ((hb1.block _ (by simp; omega)).trans HN1.out), (HBX.out.block _ (by simp at hsz; omega)).trans ((hb1.block _ (by simp)).trans HN2.out), (HB00.out.trans (hb1.mono (by simp; omega))).trans (HBX.out.mono (by simp at hsz; omega))⟩
  clear hv1 hv2 hb1 hpa HN1 HN2
  have hlt : w.heap.size + 1 < w1.heap.size := by simp at hsz; omega
  have HBY := HBX
  generalize hG : w1.heap.size = G at *
  go_wp2
  try rw [hG]
  generalize (w1.alloc (.cells #[.int .i64 s1, .bool b1, .slice a1 n1 c1, .int .i64 s2, .bool b2, .slice a2 n2 c2] 63)).alloc (.cells #[.int .i64 s3, .bool b3, .slice a3 n3 c3, .int .i64 s4, .bool b4, .slice a4 n4 c4] 63) = wx at *
  have K0 := Lib.hid HI0.out.drew.cells
  have B0 : Hid (Below G w1 wx.drew) := Lib.hid HBX.out.drew
  have HSZ := Lib.hid hG
  go_region_held3 (fun w' => w'.cell? ⟨G, 0, none⟩ = some (.int .i64 s1) ∧ w'.cell? ⟨G, 1, none⟩ = some (.bool b1) ∧ w'.cell? ⟨G, 2, none⟩ = some (.slice a1 n1 c1) ∧ w'.cell? ⟨G, 3, none⟩ = some (.int .i64 s2) ∧ w'.cell? ⟨G, 4, none⟩ = some (.bool b2) ∧ w'.cell? ⟨G, 5, none⟩ = some (.slice a2 n2 c2) ∧ w'.cell? ⟨G + 1, 0, none⟩ = some (.int .i64 s3) ∧ w'.cell? ⟨G + 1, 1, none⟩ = some (.bool b3) ∧ w'.cell? ⟨G + 1, 2, none⟩ = some (.slice a3 n3 c3) ∧ w'.cell? ⟨G + 1, 3, none⟩ = some (.int .i64 s4) ∧ w'.cell? ⟨G + 1, 4, none⟩ = some (.bool b4) ∧ w'.cell? ⟨G + 1, 5, none⟩ = some (.slice a4 n4 c4))
        (first | with_reducible exact K4.out | with_reducible exact K3.out | with_reducible exact K2.out | with_reducible exact K1.out | with_reducible exact K0.out | (obtain ⟨k0, k1, k2, k3, k4, k5, l0, l1, l2, l3, l4, l5⟩ := K4.out; exact ⟨(cell_set3 (by omega) _ _ _ 0).trans k0, (cell_set3 (by omega) _ _ _ 1).trans k1, (cell_set3 (by omega) _ _ _ 2).trans k2, (cell_set3 (by omega) _ _ _ 3).trans k3, (cell_set3 (by omega) _ _ _ 4).trans k4, (cell_set3 (by omega) _ _ _ 5).trans k5, (cell_set3 (by omega) _ _ _ 0).trans l0, (cell_set3 (by omega) _ _ _ 1).trans l1, (cell_set3 (by omega) _ _ _ 2).trans l2, (cell_set3 (by omega) _ _ _ 3).trans l3, (cell_set3 (by omega) _ _ _ 4).trans l4, (cell_set3 (by omega) _ _ _ 5).trans l5⟩) | (obtain ⟨k0, k1, k2, k3, k4, k5, l0, l1, l2, l3, l4, l5⟩ := K4.out; exact ⟨(cell_set3 (by omega) _ _ _ 0).trans ((cell_set3 (by omega) _ _ _ 0).trans k0), (cell_set3 (by omega) _ _ _ 1).trans ((cell_set3 (by omega) _ _ _ 1).trans k1), (cell_set3 (by omega) _ _ _ 2).trans ((cell_set3 (by omega) _ _ _ 2).trans k2), (cell_set3 (by omega) _ _ _ 3).trans ((cell_set3 (by omega) _ _ _ 3).trans k3), (cell_set3 (by omega) _ _ _ 4).trans ((cell_set3 (by omega) _ _ _ 4).trans k4), (cell_set3 (by omega) _ _ _ 5).trans ((cell_set3 (by omega) _ _ _ 5).trans k5), (cell_set3 (by omega) _ _ _ 0).trans ((cell_set3 (by omega) _ _ _ 0).trans l0), (cell_set3 (by omega) _ _ _ 1).trans ((cell_set3 (by omega) _ _ _ 1).trans l1), (cell_set3 (by omega) _ _ _ 2).trans ((cell_set3 (by omega) _ _ _ 2).trans l2), (cell_set3 (by omega) _ _ _ 3).trans ((cell_set3 (by omega) _ _ _ 3).trans l3), (cell_set3 (by omega) _ _ _ 4).trans ((cell_set3 (by omega) _ _ _ 4).trans l4), (cell_set3 (by omega) _ _ _ 5).trans ((cell_set3 (by omega) _ _ _ 5).trans l5)⟩))
        (first
          | (go_at_call 76
             first
          | (with_reducible refine (hnx _ B0.out).mono ?_
             rintro e u1 ⟨v1, rfl, hv1, hb1⟩
             have T1 := Lib.hid (HI0.out.drew.far hb1)
             have K1 := Lib.hid T1.out.cells
             have B1 := Lib.hid (B0.out.trans (hb1.mono (by have h := B0.out.size; omega)))
             have V1 := Lib.hid hv1
             obtain ⟨e1a, e1b, e1c, e1d, e1f, rfl⟩ := iv_form hv1)
          | (with_reducible refine (hny _ B1.out).mono ?_
             rintro e u2 ⟨v2, rfl, hv2, hb2⟩
             have T2 := Lib.hid (T1.out.far hb2)
             have K2 := Lib.hid T2.out.cells
             have B2 := Lib.hid (B1.out.trans (hb2.mono (by have h := B1.out.size; omega)))
             have V2 := Lib.hid hv2
             have V1a := Lib.hid (V1.out.far hb2)
             obtain ⟨e2a, e2b, e2c, e2d, e2f, rfl⟩ := iv_form hv2))
          | (go_at_call 75
             first
          | (with_reducible refine (hix _ B2.out).mono ?_
             rintro e u3 ⟨rfl, hb3⟩
             have T3 := Lib.hid (T2.out.far hb3)
             have K3 := Lib.hid T3.out.cells
             have B3 := Lib.hid (B2.out.trans (hb3.mono (by have h := B2.out.size; omega)))
             have V1b := Lib.hid (V1a.out.far hb3)
             have V2b := Lib.hid (V2.out.far hb3))
          | (with_reducible refine (hiy _ B3.out).mono ?_
             rintro e u4 ⟨rfl, hb4⟩
             have T4 := Lib.hid (T3.out.far hb4)
             have K4 := Lib.hid T4.out.cells
             have B4 := Lib.hid (B3.out.trans (hb4.mono (by have h := B3.out.size; omega)))
             have V1c := Lib.hid (V1b.out.far hb4)
             have V2c := Lib.hid (V2b.out.far hb4)
             obtain ⟨r0, r1, r2, f0, f1, f2⟩ := Res.cells T4.out.r1
             obtain ⟨p0, p1, p2, g0, g1, g2⟩ := Res.cells T4.out.r2)))
  go_wp2
  exact end_iib Tryz.results96 rfl rfl rfl rfl T4.out.r1 T4.out.r2 (by omega) V1c.out V2c.out T4.out.bel (Nat.le_refl _) (by omega) (fun w3 v v' h1 h2 h3 => ⟨v, v', rfl, h1, h2, h3⟩)
def QRAt (za zb : Int) : Prop := ∀ x y W, IV W x za → IV W y zb → Calls Tryz.prog 99 #[x, y] W (QRPost za zb W)
theorem divide_int (s t : ByteArray) (za zb : Int) (w : World) (hs : s.size ≤ 1000000) (ht : t.size ≤ 1000000) (h : Env w) (hp : ratF s.data.toList = some (za : Rat)) (hq : ratF t.data.toList = some (zb : Rat)) (hg : GcdAt s.data.toList) (hg' : GcdAt t.data.toList) (h0 : zb ≠ 0) (hqr : QRAt za zb) :
    Calls Tryz.prog 94 #[.string s, .string t] w fun e w' => e = .returned (.tuple #[.string ⟨(decI (za / zb)).toArray⟩, .string ⟨(decI (za % zb)).toArray⟩]) ∧ Below w.heap.size w w' := by
  have hin := integers_int s t za zb w hs ht h hp hq hg hg'
  have HE := Lib.hid h
  have HQR := Lib.hid hqr
  have hzb : decide (zb = 0) = false := decide_eq_false h0
  clear h hg hg' hp hq hs ht hqr
  go_enter Tryz.func94, Tryz.ntmps94
  go_wp2_with fail
  refine hin.mono ?_
  rintro e w1 ⟨v1, v2, rfl, hv1, hv2, hb1⟩
  have hiz := fun W (hW : Below w1.heap.size w1 W) => isZero_any v2 zb W (hv2.far hW)
  rw [hzb] at hiz
  have hqq := fun W (hW : Below w1.heap.size w1 W) => HQR.out v1 v2 W (hv1.far hW) (hv2.far hW)
  have HB1 := Lib.hid hb1
  obtain ⟨s1, b1, a1, n1, c1, rfl⟩ := iv_form hv1
  obtain ⟨s2, b2, a2, n2, c2, rfl⟩ := iv_form hv2
  have HB2 := Lib.hid (below2 w1 (.cells #[.int .i64 s1, .bool b1, .slice a1 n1 c1] 58) (.cells #[.int .i64 s2, .bool b2, .slice a2 n2 c2] 58))
  have HX1 : Hid (((w1.alloc (.cells #[.int .i64 s1, .bool b1, .slice a1 n1 c1] 58)).alloc (.cells #[.int .i64 s2, .bool b2, .slice a2 n2 c2] 58)).heap[w1.heap.size]? = some (.cells #[.int .i64 s1, .bool b1, .slice a1 n1 c1] 58 (0, 0))) := Lib.hid ((Below.heap_alloc _ _ _ (by simp)).trans (heap_alloc_new w1 _))
  have HX2 := Lib.hid (new_second w1 (.cells #[.int .i64 s1, .bool b1, .slice a1 n1 c1] 58) (.cells #[.int .i64 s2, .bool b2, .slice a2 n2 c2] 58))
  have hiz0 := hiz _ HB2.out
  clear hv1 hv2 hb1 hin hiz
  go_wp2_with fail
  refine hiz0.mono ?_
  rintro e w2 ⟨rfl, hb2⟩
  have HY1 := Lib.hid ((hb2.block _ (lt_of_heap HX1.out)).trans HX1.out)
  have HY2 := Lib.hid ((hb2.block _ (lt_of_heap HX2.out)).trans HX2.out)
  have HB3 := Lib.hid (HB2.out.trans (hb2.mono HB2.out.size))
  have hqq0 := hqq _ HB3.out
  obtain ⟨k0, k1, k2, -⟩ := Cells.of HY1.out
  obtain ⟨l0, l1, l2, -⟩ := Cells.of HY2.out
  clear hiz0 hb2 HX1 HX2 HB2 hqq
  go_wp2_with fail
  refine hqq0.mono ?_
  rintro e w3 ⟨v3, v4, rfl, hv3, hv4, hb3⟩
  have HB4 := Lib.hid (HB1.out.trans ((HB3.out.trans (hb3.mono HB3.out.size)).mono HB1.out.size))
  have HV3 := Lib.hid hv3
  have HV4 := Lib.hid hv4
  obtain ⟨s3, b3, a3, n3, c3, rfl⟩ := iv_form hv3
  obtain ⟨s4, b4, a4, n4, c4, rfl⟩ := iv_form hv4
  have HB5 := Lib.hid (below2 w3 (.cells #[.int .i64 s3, .bool b3, .slice a3 n3 c3] 58) (.cells #[.int .i64 s4, .bool b4, .slice a4 n4 c4] 58))
  have HZ1 : Hid (((w3.alloc (.cells #[.int .i64 s3, .bool b3, .slice a3 n3 c3] 58)).alloc (.cells #[.int .i64 s4, .bool b4, .slice a4 n4 c4] 58)).heap[w3.heap.size]? = some (.cells #[.int .i64 s3, .bool b3, .slice a3 n3 c3] 58 (0, 0))) := Lib.hid ((Below.heap_alloc _ _ _ (by simp)).trans (heap_alloc_new w3 _))
  have HZ2 := Lib.hid (new_second w3 (.cells #[.int .i64 s3, .bool b3, .slice a3 n3 c3] 58) (.cells #[.int .i64 s4, .bool b4, .slice a4 n4 c4] 58))
  have hst1 := fun W (hW : Below w3.heap.size w3 W) => strAt_any (za / zb) _ W (HE.out.far (HB4.out.trans (hW.mono HB4.out.size))) (HV3.out.far hW)
  have hst2 := fun W (hW : Below w3.heap.size w3 W) => strAt_any (za % zb) _ W (HE.out.far (HB4.out.trans (hW.mono HB4.out.size))) (HV4.out.far hW)
  clear hv3 hv4 hb3 hqq0 k0 k1 k2 l0 l1 l2 HY1 HY2
  go_wp2
  generalize (w3.alloc (.cells #[.int .i64 s3, .bool b3, .slice a3 n3 c3] 58)).alloc (.cells #[.int .i64 s4, .bool b4, .slice a4 n4 c4] 58) = wx at *
  have KB := Lib.hid HB5.out.drew
  have K0 : Hid (Two wx.drew w3.heap.size (w3.heap.size + 1) (.int .i64 s3) (.bool b3) (.slice a3 n3 c3) (.int .i64 s4) (.bool b4) (.slice a4 n4 c4)) := Lib.hid ⟨heap_cell HZ1.out 0, heap_cell HZ1.out 1, heap_cell HZ1.out 2, heap_cell HZ2.out 0, heap_cell HZ2.out 1, heap_cell HZ2.out 2⟩
  have hl1 := lt_of_heap HZ1.out
  have hl2 := lt_of_heap HZ2.out
  go_region_held3 (fun w' => w'.cell? ⟨w3.heap.size, 0, none⟩ = some (.int .i64 s3) ∧ w'.cell? ⟨w3.heap.size, 1, none⟩ = some (.bool b3) ∧ w'.cell? ⟨w3.heap.size, 2, none⟩ = some (.slice a3 n3 c3) ∧ w'.cell? ⟨w3.heap.size + 1, 0, none⟩ = some (.int .i64 s4) ∧ w'.cell? ⟨w3.heap.size + 1, 1, none⟩ = some (.bool b4) ∧ w'.cell? ⟨w3.heap.size + 1, 2, none⟩ = some (.slice a4 n4 c4))
    (first | exact K0.out | exact K1.out | exact K2.out)
    (first
      | (go_at_call 73
         first
         | (with_reducible refine (hst1 _ KB.out).mono ?_
            rintro e u1 ⟨rfl, hb5⟩
            have K1 := Lib.hid (Two.far (show Below wx.drew.heap.size wx.drew u1 from hb5) hl1 hl2 K0.out)
            have KB1 := Lib.hid (KB.out.trans (hb5.mono KB.out.size))
            have hb5s := hb5.size)
         | (with_reducible refine (hst2 _ KB1.out).mono ?_
            rintro e u2 ⟨rfl, hb6⟩
            have K2 := Lib.hid (Two.far hb6 (Nat.lt_of_lt_of_le hl1 hb5s) (Nat.lt_of_lt_of_le hl2 hb5s) K1.out)
            have KB2 := Lib.hid (HB4.out.trans ((KB1.out.trans (hb6.mono KB1.out.size)).mono HB4.out.size)))))
  go_wp2
  go_ret2
  exact ⟨rfl, KB2.out⟩
theorem numQuo_int (s t : ByteArray) (za zb : Int) (w : World) (hs : s.size ≤ 1000000) (ht : t.size ≤ 1000000) (h : Env w) (hp : ratF s.data.toList = some (za : Rat)) (hq : ratF t.data.toList = some (zb : Rat)) (hg : GcdAt s.data.toList) (hg' : GcdAt t.data.toList) (h0 : zb ≠ 0) (hqr : QRAt za zb) :
    Calls Tryz.prog 36 #[.string s, .string t] w fun e w' => e = .returned (.string ⟨(decI (za / zb)).toArray⟩) ∧ Below w.heap.size w w' := by
  have hd := divide_int s t za zb w hs ht h hp hq hg hg' h0 hqr
  clear h hg hg' hp hq hs ht hqr
  go_enter Tryz.func36, Tryz.ntmps36
  go_wp2_with fail
  refine hd.mono ?_
  rintro e w1 ⟨rfl, hb1⟩
  go_wp2
  go_ret
  exact ⟨rfl, hb1⟩
theorem numRem_int (s t : ByteArray) (za zb : Int) (w : World) (hs : s.size ≤ 1000000) (ht : t.size ≤ 1000000) (h : Env w) (hp : ratF s.data.toList = some (za : Rat)) (hq : ratF t.data.toList = some (zb : Rat)) (hg : GcdAt s.data.toList) (hg' : GcdAt t.data.toList) (h0 : zb ≠ 0) (hqr : QRAt za zb) :
    Calls Tryz.prog 37 #[.string s, .string t] w fun e w' => e = .returned (.string ⟨(decI (za % zb)).toArray⟩) ∧ Below w.heap.size w w' := by
  have hd := divide_int s t za zb w hs ht h hp hq hg hg' h0 hqr
  clear h hg hg' hp hq hs ht hqr
  go_enter Tryz.func37, Tryz.ntmps37
  go_wp2_with fail
  refine hd.mono ?_
  rintro e w1 ⟨rfl, hb1⟩
  go_wp2
  go_ret
  exact ⟨rfl, hb1⟩
end
end Go.Proofs.YtgehimcngljmnaaGreatDoor
/- number.Parse at the chapter's example. -/
namespace Go.Proofs.YtgehimcngljmnaaGreatDoor
open Go.RowKit Nmx

section
set_option maxRecDepth 100000
set_option maxHeartbeats 4000000
theorem numParse_ex (w : World) (h : Env w) : Calls Tryz.prog 21 #[.string ⟨#[48, 48, 55, 46, 53, 48]⟩] w fun e w' => e = .returned (.tuple #[.string ⟨#[49, 53, 47, 50]⟩, .bool true]) ∧ Below w.heap.size w w' := by
  obtain ⟨m, hm⟩ := h.len
  have hcut := Tryz.strings_Cut ⟨#[48, 48, 55, 46, 53, 48]⟩ ⟨#[46]⟩ m w (by decide) hm
  have hcs : Lib.cut (⟨#[48, 48, 55, 46, 53, 48]⟩ : ByteArray).data.toList (⟨#[46]⟩ : ByteArray).data.toList = ([48, 48, 55], [53, 48], true) := by decide +kernel
  rw [hcs] at hcut
  simp only at hcut
  have htp := fun W => Tryz.strings_TrimPrefix ⟨#[48, 48, 55]⟩ ⟨#[45]⟩ W
  have hts : Lib.trimPrefix (⟨#[48, 48, 55]⟩ : ByteArray).data.toList (⟨#[45]⟩ : ByteArray).data.toList = [48, 48, 55] := by decide +kernel
  rw [hts] at htp
  have hi1 : intF ((⟨#[48, 48, 55]⟩ : ByteArray) ++ ⟨#[53, 48]⟩).data.toList = some 750 := by decide +kernel
  have hi2 : intF ((⟨#[49]⟩ : ByteArray) ++ ⟨#[48, 48]⟩).data.toList = some 100 := by decide +kernel
  have hp1 := fun W => parseInt_any ((⟨#[48, 48, 55]⟩ : ByteArray) ++ ⟨#[53, 48]⟩) W (by decide +kernel)
  have hp2 := fun W => parseInt_any ((⟨#[49]⟩ : ByteArray) ++ ⟨#[48, 48]⟩) W (by decide +kernel)
  unfold ParseIntPost at hp1 hp2
  rw [hi1] at hp1
  rw [hi2] at hp2
  have hrp := fun W => Tryz.strings_Repeat ⟨#[48]⟩ 2 W (by omega) (by decide +kernel)
  have hrs : Lib.repeatL (⟨#[48]⟩ : ByteArray).data.toList 2 = [48, 48] := by decide +kernel
  rw [hrs] at hrp
  have hqt := quotOk_small (n := 750) (d := 100) (by unfold Small; omega) (by unfold Small; omega) (by omega)
  have HTX : Hid (textQ (Rat.divInt 750 100) = [49, 53, 47, 50]) := Lib.hid (ratF_iff.1 (by decide +kernel))
  have HSZ : Hid ((decI (Rat.divInt 750 100).num).length + (decI (Rat.divInt 750 100).den).length ≤ 1000000000) := Lib.hid (by
    have h1 : (Rat.divInt 750 100).num = 15 := by decide +kernel
    have h2 : (Rat.divInt 750 100).den = 2 := by decide +kernel
    rw [h1, h2]
    have := decN_len_le (n := 15) (k := 2) (by omega) (by omega)
    have := decN_len_le (n := 2) (k := 2) (by omega) (by omega)
    have e1 : decI 15 = decN 15 := decI_nat 15
    have e2 : decI ((2 : Nat) : Int) = decN 2 := decI_nat 2
    rw [e1, e2]; omega)
  have HE := Lib.hid h
  unfold QuotOk at hqt
  generalize Rat.divInt 750 100 = qq at *
  clear hi1 hi2 hrs hcs hts h
  go_enter Tryz.func21, Tryz.ntmps21
  go_wp2_with fail
  refine hcut.mono ?_
  rintro e w1 ⟨rfl, n1, rfl⟩
  go_wp2_with fail
  refine (htp _).mono ?_
  rintro e w2 ⟨rfl, hw2⟩
  rw [hw2]
  clear hw2
  go_wp2_with fail
  refine (hp1 _).mono ?_
  rintro e w3 ⟨v3, rfl, hv3, hb3⟩
  have HV3 := Lib.hid hv3
  obtain ⟨s3, b3, a3, n3, c3, rfl⟩ := iv_form hv3
  have HB3 := Lib.hid ((below_drewN (Below.refl w.heap.size w) n1).trans (hb3.mono (by simp)))
  clear hv3 hb3 hcut
  go_wp2_with fail
  have HX3 := Lib.hid (heap_alloc_new w3 (.cells #[.int .i64 s3, .bool b3, .slice a3 n3 c3] 58))
  have HA3 := Lib.hid (HB3.out.alloc HB3.out.size (.cells #[.int .i64 s3, .bool b3, .slice a3 n3 c3] 58))
  have HW3 := Lib.hid (HV3.out.alloc_of (.cells #[.int .i64 s3, .bool b3, .slice a3 n3 c3] 58))
  generalize w3.heap.size = g3 at *
  refine (hrp _).mono ?_
  rintro e w4 ⟨rfl, hb4⟩
  have HX4 := Lib.hid ((hb4.block _ (lt_of_heap HX3.out)).trans HX3.out)
  have HB4 := Lib.hid (HA3.out.trans (hb4.mono HA3.out.size))
  have HW4 := Lib.hid (HW3.out.far hb4)
  clear hb4 HX3 HA3 HW3 hrp HB3 HV3
  go_wp2_with fail
  refine (hp2 _).mono ?_
  rintro e w5 ⟨v5, rfl, hv5, hb5⟩
  have HX5 := Lib.hid ((hb5.block _ (lt_of_heap HX4.out)).trans HX4.out)
  have HB5 := Lib.hid (HB4.out.trans (hb5.mono HB4.out.size))
  have HW5 := Lib.hid (HW4.out.far hb5)
  have HV5 := Lib.hid hv5
  obtain ⟨s5, b5, a5, n5, c5, rfl⟩ := iv_form hv5
  have hbx : Below w5.heap.size w5 (w5.alloc (.cells #[.int .i64 s5, .bool b5, .slice a5 n5 c5] 58)) := (Below.refl _ _).alloc (Nat.le_refl _) _
  have hqt2 := hqt _ _ _ (HW5.out.far hbx) (HV5.out.far hbx)
  have HB6 := Lib.hid (HB5.out.alloc HB5.out.size (.cells #[.int .i64 s5, .bool b5, .slice a5 n5 c5] 58))
  obtain ⟨k0, k1, k2, -⟩ := Cells.of HX5.out
  have hlt5 := lt_of_heap HX5.out
  clear hb5 hv5 hbx hqt hp2 hp1
  go_wp2_with fail
  refine hqt2.mono ?_
  rintro e w7 ⟨v7, rfl, hv7, hb7⟩
  have HB7 := Lib.hid (HB6.out.trans (hb7.mono HB6.out.size))
  have hst := ratString_any v7 qq w7 hv7 (HE.out.far HB7.out) HSZ.out
  clear hb7 hv7 hqt2
  go_wp2_with fail
  refine hst.mono ?_
  rintro e w8 ⟨rfl, hb8⟩
  have HB8 := Lib.hid (HB7.out.trans (hb8.mono HB7.out.size))
  rw [HTX.out]
  go_wp2
  go_ret2
  exact ⟨rfl, HB8.out⟩
end
end Go.Proofs.YtgehimcngljmnaaGreatDoor
/- The sanity check of layer number. -/
namespace Go.Proofs.YtgehimcngljmnaaGreatDoor
open Go.RowKit Nmx

theorem gcdAt_small {l : List UInt8} {n d : Int} (h1 : canonF (upto l) = some n) (h2 : canonF (behind l) = some d) (hn : Small n) (hd : Small d) : GcdAt l := fun n' d' e1 e2 _ => by
  rw [h1] at e1
  rw [h2] at e2
  cases e1
  cases e2
  exact gcdOk_small hn hd
theorem qrAt_small {za zb : Int} (ha : Small za) (hb : Small zb) (h0 : zb ≠ 0) : QRAt za zb := fun x y W hx hy => by
  have := iv_small hx ha
  subst this
  have := iv_small hy hb
  subst this
  exact quoRem_ss W ha hb h0
section
set_option maxRecDepth 100000
set_option maxHeartbeats 4000000
theorem ex_add (w : World) (h : Env w) : Calls Tryz.prog 28 #[.string ⟨#[49, 47, 50]⟩, .string ⟨#[49, 47, 51]⟩] w fun e w' => e = .returned (.string ⟨#[53, 47, 54]⟩) ∧ Below w.heap.size w w' := by
  have hp : ratF (⟨#[49, 47, 50]⟩ : ByteArray).data.toList = some (Rat.divInt 1 2) := by decide +kernel
  have hq : ratF (⟨#[49, 47, 51]⟩ : ByteArray).data.toList = some (Rat.divInt 1 3) := by decide +kernel
  have hg : GcdAt (⟨#[49, 47, 50]⟩ : ByteArray).data.toList := gcdAt_small (n := 1) (d := 2) (by decide +kernel) (by decide +kernel) (by unfold Small; omega) (by unfold Small; omega)
  have hg' : GcdAt (⟨#[49, 47, 51]⟩ : ByteArray).data.toList := gcdAt_small (n := 1) (d := 3) (by decide +kernel) (by decide +kernel) (by unfold Small; omega) (by unfold Small; omega)
  have n1 : (Rat.divInt 1 2).num = 1 := by decide +kernel
  have d1 : (Rat.divInt 1 2).den = 2 := by decide +kernel
  have n2 : (Rat.divInt 1 3).num = 1 := by decide +kernel
  have d2 : (Rat.divInt 1 3).den = 3 := by decide +kernel
  have hr : Rat.divInt 1 2 + Rat.divInt 1 3 = Rat.divInt 5 6 := by decide +kernel
  have htx : textQ (Rat.divInt 5 6) = [53, 47, 54] := ratF_iff.1 (by decide +kernel)
  have hb : 3 < BB ^ 1 := by rw [Nat.pow_one, BB_eq]; omega
  have hqo : QuotOk ((Rat.divInt 1 2).num * (Rat.divInt 1 3).den + (Rat.divInt 1 3).num * (Rat.divInt 1 2).den) ((Rat.divInt 1 2).den * (Rat.divInt 1 3).den) := by
    rw [n1, n2, d1, d2]
    exact quotOk_small (by unfold Small; omega) (by unfold Small; omega) (by omega)
  have hsz : (decI (Rat.divInt 5 6).num).length + (decI (Rat.divInt 5 6).den).length ≤ 1000000000 := by
    have h1 : (Rat.divInt 5 6).num = 5 := by decide +kernel
    have h2 : (Rat.divInt 5 6).den = 6 := by decide +kernel
    rw [h1, h2]
    have := decN_len_le (n := 5) (k := 2) (by omega) (by omega)
    have := decN_len_le (n := 6) (k := 2) (by omega) (by omega)
    have e1 : decI 5 = decN 5 := decI_nat 5
    have e2 : decI ((6 : Nat) : Int) = decN 6 := decI_nat 6
    rw [e1, e2]; omega
  have hres := binary_add ⟨#[49, 47, 50]⟩ ⟨#[49, 47, 51]⟩ _ _ (Rat.divInt 1 2 + Rat.divInt 1 3) w (by decide +kernel) (by decide +kernel) h hp hq hg hg'
    (fun x y W hx hy => ratAdd_any (k := 1) (l := 1) x y _ _ W hx hy ⟨by rw [n1]; exact Nat.lt_trans (by decide) hb, by rw [d1]; omega⟩ ⟨by rw [n2]; exact Nat.lt_trans (by decide) hb, by rw [d2]; omega⟩ (by omega) hqo) (by rw [hr]; exact hsz)
  rw [hr, htx] at hres
  exact hres
theorem ex_quo (w : World) (h : Env w) : Calls Tryz.prog 36 #[.string ⟨#[45, 55]⟩, .string ⟨#[50]⟩] w fun e w' => e = .returned (.string ⟨#[45, 52]⟩) ∧ Below w.heap.size w w' := by
  have hp : ratF (⟨#[45, 55]⟩ : ByteArray).data.toList = some (((-7 : Int)) : Rat) := by decide +kernel
  have hq : ratF (⟨#[50]⟩ : ByteArray).data.toList = some (((2 : Int)) : Rat) := by decide +kernel
  have hres := numQuo_int ⟨#[45, 55]⟩ ⟨#[50]⟩ (-7) 2 w (by decide +kernel) (by decide +kernel) h hp hq (gcdAt_int (by decide +kernel)) (gcdAt_int (by decide +kernel)) (by omega) (qrAt_small (by unfold Small; omega) (by unfold Small; omega) (by omega))
  have e : decI ((-7 : Int) / 2) = [45, 52] := canonF_iff.1 (by decide +kernel)
  rw [e] at hres
  exact hres
theorem ex_rem (w : World) (h : Env w) : Calls Tryz.prog 37 #[.string ⟨#[45, 55]⟩, .string ⟨#[50]⟩] w fun e w' => e = .returned (.string ⟨#[49]⟩) ∧ Below w.heap.size w w' := by
  have hp : ratF (⟨#[45, 55]⟩ : ByteArray).data.toList = some (((-7 : Int)) : Rat) := by decide +kernel
  have hq : ratF (⟨#[50]⟩ : ByteArray).data.toList = some (((2 : Int)) : Rat) := by decide +kernel
  have hres := numRem_int ⟨#[45, 55]⟩ ⟨#[50]⟩ (-7) 2 w (by decide +kernel) (by decide +kernel) h hp hq (gcdAt_int (by decide +kernel)) (gcdAt_int (by decide +kernel)) (by omega) (qrAt_small (by unfold Small; omega) (by unfold Small; omega) (by omega))
  have e : decI ((-7 : Int) % 2) = [49] := canonF_iff.1 (by decide +kernel)
  rw [e] at hres
  exact hres
theorem ex_valid0 (w : World) (h : Env w) : Calls Tryz.prog 49 #[.string ⟨#[50, 47, 52]⟩] w fun e w' => e = .returned (.bool false) ∧ Below w.heap.size w w' := by
  have hp : (ratF (⟨#[50, 47, 52]⟩ : ByteArray).data.toList).isSome = false := by decide +kernel
  have hres := numValid_any ⟨#[50, 47, 52]⟩ w (by decide +kernel) h (gcdAt_small (n := 2) (d := 4) (by decide +kernel) (by decide +kernel) (by unfold Small; omega) (by unfold Small; omega))
  rw [hp] at hres
  exact hres
theorem ex_valid1 (w : World) (h : Env w) : Calls Tryz.prog 49 #[.string ⟨#[45, 51, 47, 52]⟩] w fun e w' => e = .returned (.bool true) ∧ Below w.heap.size w w' := by
  have hp : (ratF (⟨#[45, 51, 47, 52]⟩ : ByteArray).data.toList).isSome = true := by decide +kernel
  have hres := numValid_any ⟨#[45, 51, 47, 52]⟩ w (by decide +kernel) h (gcdAt_small (n := -3) (d := 4) (by decide +kernel) (by decide +kernel) (by unfold Small; omega) (by unfold Small; omega))
  rw [hp] at hres
  exact hres
theorem awake_ok (w : World) (h : Env w) : Calls Tryz.prog 14 #[] w fun e w' => e = .returned (.bool true) ∧ Below w.heap.size w w' := by
  have HE := Lib.hid h
  have h1 := numParse_ex w h
  clear h
  go_enter Tryz.func14, Tryz.ntmps14
  go_wp2_with fail
  refine h1.mono ?_
  rintro e w1 ⟨rfl, hb1⟩
  have h2 := ex_add w1 (HE.out.far hb1)
  have HB1 := Lib.hid hb1
  clear hb1 h1
  go_wp2_with fail
  refine h2.mono ?_
  rintro e w2 ⟨rfl, hb2⟩
  have HB2 := Lib.hid (HB1.out.trans (hb2.mono HB1.out.size))
  have h3 := ex_quo w2 (HE.out.far HB2.out)
  clear hb2 h2
  go_wp2_with fail
  refine h3.mono ?_
  rintro e w3 ⟨rfl, hb3⟩
  have HB3 := Lib.hid (HB2.out.trans (hb3.mono HB2.out.size))
  have h4 := ex_rem w3 (HE.out.far HB3.out)
  clear hb3 h3
  go_wp2_with fail
  refine h4.mono ?_
  rintro e w4 ⟨rfl, hb4⟩
  have HB4 := Lib.hid (HB3.out.trans (hb4.mono HB3.out.size))
  have h5 := ex_valid0 w4 (HE.out.far HB4.out)
  clear hb4 h4
  go_wp2_with fail
  refine h5.mono ?_
  rintro e w5 ⟨rfl, hb5⟩
  have HB5 := Lib.hid (HB4.out.trans (hb5.mono HB4.out.size))
  have h6 := ex_valid1 w5 (HE.out.far HB5.out)
  clear hb5 h5
  go_wp2_with fail
  refine h6.mono ?_
  rintro e w6 ⟨rfl, hb6⟩
  have HB6 := Lib.hid (HB5.out.trans (hb6.mono HB5.out.size))
  clear hb6 h6
  go_wp2
  go_ret
  exact ⟨rfl, HB6.out⟩
end
end Go.Proofs.YtgehimcngljmnaaGreatDoor
/- The statement on FromInt: its walk. -/
namespace Go.Proofs.YtgehimcngljmnaaGreatDoor
open Go.RowKit Nmx

theorem sgn_cmp (z : Int) : cmpI z 0 = sgnI z := by unfold cmpI sgnI; rfl
theorem dec_short (z : Int) (h1 : -9223372036854775808 ≤ z) (h2 : z ≤ 9223372036854775807) : (decI z).length ≤ 1000000 := by
  have h3 : (decI z).length ≤ 1 + (decN z.natAbs).length := by unfold decI; split <;> simp; omega
  have := decN_len_le (n := z.natAbs) (k := 19) (by omega) (by omega)
  omega
section
set_option maxRecDepth 100000
set_option maxHeartbeats 4000000
theorem numFromInt_any (z : Int) (w : World) (h : Env w) (h1 : -9223372036854775808 ≤ z) (h2 : z ≤ 9223372036854775807) : Calls Tryz.prog 23 #[.int .i64 z] w fun e w' => e = .returned (.string ⟨(decI z).toArray⟩) ∧ Below w.heap.size w w' := by
  have hf := fromInt64_any z w h1 h2
  have HE := Lib.hid h
  clear h h1 h2
  go_enter Tryz.func23, Tryz.ntmps23
  go_wp2_with fail
  refine hf.mono ?_
  rintro e w1 ⟨v, rfl, hv, hb⟩
  have hs := strAt_any z v w1 (HE.out.far hb) hv
  have HB := Lib.hid hb
  clear hb hf hv
  go_wp2_with fail
  refine hs.mono ?_
  rintro e w2 ⟨rfl, hb2⟩
  go_wp2
  go_ret
  exact ⟨rfl, HB.out.trans (hb2.mono HB.out.size)⟩
theorem numInt_least (M : Int) (hM : M = -9223372036854775808) (w : World) (h : Env w) : Calls Tryz.prog 24 #[.string ⟨(decI M).toArray⟩] w fun e w' => e = .returned (.tuple #[.int .i64 M, .bool true]) ∧ Below w.heap.size w w' := by
  have hdt : (⟨(decI M).toArray⟩ : ByteArray).data.toList = decI M := by simp
  have hsz : (⟨(decI M).toArray⟩ : ByteArray).size ≤ 1000000 := by
    rw [sz_txt]
    have h1 : (decI M).length ≤ 1 + (decN M.natAbs).length := by unfold decI; split <;> simp; omega
    have := decN_len_le (n := M.natAbs) (k := 19) (by omega) (by omega)
    omega
  have hp := parse_env ⟨(decI M).toArray⟩ w hsz h (by rw [hdt]; exact gcdAt_decI M)
  unfold ParsePost at hp
  rw [hdt, ratF_decI] at hp
  have hd1 : decide ((M : Rat).den = 1) = true := by simp
  have hq0 : (some (M : Rat)).getD 0 = (M : Rat) := rfl
  rw [hq0] at hp
  have hns : ¬ Small M := by unfold Small; omega
  have hff := fun W (hW : Below w.heap.size w W) => numFromInt_any M W (h.far hW) (by omega) (by omega)
  have HNS := Lib.hid hns
  have HM := Lib.hid hM
  generalize (⟨(decI M).toArray⟩ : ByteArray) = tx at *
  clear h hq0 hns hM hsz hdt
  go_enter Tryz.func24, Tryz.ntmps24
  go_wp2_with fail
  refine hp.mono ?_
  rintro e w1 ⟨v, rfl, hv, hb1⟩
  have hi := fun W hW => ratIsInt_any v (M : Rat) W hW
  rw [hd1] at hi
  have hn := fun W hW => ratNum_any v (M : Rat) W hW
  rw [Rat.num_intCast] at hn
  have HV := Lib.hid hv
  obtain ⟨s1, b1, a1, n1, c1, s2, b2, a2, n2, c2, rfl, -, -⟩ := rv_form hv
  have HB1 := Lib.hid (hb1.alloc hb1.size (.cells #[.int .i64 s1, .bool b1, .slice a1 n1 c1, .int .i64 s2, .bool b2, .slice a2 n2 c2] 63))
  have HVA := Lib.hid (HV.out.far ((Below.refl w1.heap.size w1).alloc (Nat.le_refl _) (.cells #[.int .i64 s1, .bool b1, .slice a1 n1 c1, .int .i64 s2, .bool b2, .slice a2 n2 c2] 63)))
  have HN := Lib.hid (heap_alloc_new w1 (.cells #[.int .i64 s1, .bool b1, .slice a1 n1 c1, .int .i64 s2, .bool b2, .slice a2 n2 c2] 63))
  clear hv hp hb1 hd1 HV
  go_wp2_with fail
  refine (hi _ HVA.out).mono ?_
  rintro e w2 ⟨rfl, hb2⟩
  have HN2 := Lib.hid ((hb2.block _ (lt_of_heap HN.out)).trans HN.out)
  have HV2 := Lib.hid (HVA.out.far hb2)
  have HB2 := Lib.hid (HB1.out.trans (hb2.mono HB1.out.size))
  clear hb2 hi HN HVA HB1
  obtain ⟨y0, y1, y2, y3, y4, y5, -⟩ := Dozen.of HN2.out HN2.out
  generalize w1.heap.size = G at *
  go_wp2_with fail
  refine (hn _ HV2.out).mono ?_
  rintro e w3 ⟨v3, rfl, hv3, hb3⟩
  have hsm := isSmall_any v3 M w3 hv3
  rw [if_neg HNS.out, decide_eq_false HNS.out] at hsm
  have HB3 := Lib.hid (HB2.out.trans (hb3.mono HB2.out.size))
  clear hv3 hb3 hn
  go_wp2_with fail
  refine hsm.mono ?_
  rintro e w4 ⟨rfl, hb4⟩
  have HB4 := Lib.hid (HB3.out.trans (hb4.mono HB3.out.size))
  have hff4 := hff w4 HB4.out
  clear hb4 hsm hff
  go_upto_region 8 with fail
  rw [← HM.out]
  go_wp2_with fail
  refine hff4.mono ?_
  rintro e w5 ⟨rfl, hb5⟩
  have HB5 := Lib.hid (HB4.out.trans (hb5.mono HB4.out.size))
  go_wp2
  go_ret2
  exact ⟨rfl, HB5.out⟩
theorem numInt_any (z : Int) (w : World) (h : Env w) (h1 : -9223372036854775808 ≤ z) (h2 : z ≤ 9223372036854775807) : Calls Tryz.prog 24 #[.string ⟨(decI z).toArray⟩] w fun e w' => e = .returned (.tuple #[.int .i64 z, .bool true]) ∧ Below w.heap.size w w' := by
  by_cases hz : Small z
  · have hdt : (⟨(decI z).toArray⟩ : ByteArray).data.toList = decI z := by simp
    refine numInt_small _ z w ?_ h (by rw [hdt]; exact ratF_decI z) (by rw [hdt]; exact gcdAt_decI z) hz
    rw [sz_txt]; exact dec_short z h1 h2
  · exact numInt_least z (by unfold Small at hz; omega) w h
theorem law_from (n m c : Int) (w : World) (h : Env w) (n1 : -9223372036854775808 ≤ n) (n2 : n ≤ 9223372036854775807) (m1 : -9223372036854775808 ≤ m) (m2 : m ≤ 9223372036854775807) (hc : cmpI n m = c)
    (hcase : (n < m ∧ c = -1) ∨ (m < n ∧ c = 1) ∨ (n = m ∧ c = 0)) :
    Calls Tryz.prog 5 #[.int .i64 n, .int .i64 m] w fun e w' => e = .returned (.bool true) ∧ Below w.heap.size w w' := by
  have hda : (⟨(decI n).toArray⟩ : ByteArray).data.toList = decI n := by simp
  have hdb : (⟨(decI m).toArray⟩ : ByteArray).data.toList = decI m := by simp
  have hd0 : (⟨#[48]⟩ : ByteArray).data.toList = [48] := rfl
  have hsa : (⟨(decI n).toArray⟩ : ByteArray).size ≤ 1000000 := by rw [sz_txt]; exact dec_short n n1 n2
  have hsb : (⟨(decI m).toArray⟩ : ByteArray).size ≤ 1000000 := by rw [sz_txt]; exact dec_short m m1 m2
  have hfa := fun W (hW : Below w.heap.size w W) => numFromInt_any n W (h.far hW) n1 n2
  have hfb := fun W (hW : Below w.heap.size w W) => numFromInt_any m W (h.far hW) m1 m2
  have hin := fun W (hW : Below w.heap.size w W) => numInt_any n W (h.far hW) n1 n2
  have href := fun W => refFromInt_any n W n1 n2
  have hcm := fun W (hW : Below w.heap.size w W) => numCmp_int ⟨(decI n).toArray⟩ ⟨(decI m).toArray⟩ n m W hsa hsb (h.far hW) (by rw [hda]; exact ratF_decI n) (by rw [hdb]; exact ratF_decI m) (by rw [hda]; exact gcdAt_decI n) (by rw [hdb]; exact gcdAt_decI m)
  have hc0 := fun W (hW : Below w.heap.size w W) => numCmp_int ⟨(decI n).toArray⟩ ⟨#[48]⟩ n 0 W hsa (by decide) (h.far hW) (by rw [hda]; exact ratF_decI n) (by rw [hd0, ratF_zero]; rfl) (by rw [hda]; exact gcdAt_decI n) (by rw [hd0, ← decI_zero]; exact gcdAt_decI 0)
  have hii := fun W (hW : Below w.heap.size w W) => numIsInt_any ⟨(decI n).toArray⟩ W hsa (h.far hW) (by rw [hda]; exact gcdAt_decI n)
  have hsg := fun W (hW : Below w.heap.size w W) => numSign_any ⟨(decI n).toArray⟩ W hsa (h.far hW) (by rw [hda]; exact gcdAt_decI n)
  have haw := fun W (hW : Below w.heap.size w W) => awake_ok W (h.far hW)
  rw [hc] at hcm
  rw [sgn_cmp] at hc0
  rw [hda, ratF_decI] at hii hsg
  simp only [Rat.den_intCast, decide_true, Option.getD_some, Rat.num_intCast] at hii hsg
  generalize (⟨(decI n).toArray⟩ : ByteArray) = ta at *
  generalize (⟨(decI m).toArray⟩ : ByteArray) = tb at *
  generalize sgnI n = sg at *
  have hfa0 := hfa w (Below.refl _ _)
  clear hc h hda hdb hd0 hsa hsb n1 n2 m1 m2 hfa
  have H0 : Hid (Below w.heap.size w w) := Lib.hid (Below.refl _ _)
  rcases hcase with ⟨hlt, rfl⟩ | ⟨hlt, rfl⟩ | ⟨rfl, rfl⟩
  all_goals (
    go_enter Tryz.func5, Tryz.ntmps5
    go_wp2_with fail
    refine hfa0.mono ?_
    rintro e u1 ⟨rfl, hb1⟩
    have H1 := Lib.hid (H0.out.trans (hb1.mono H0.out.size))
    have hfb1 := hfb u1 H1.out
    clear hb1 hfa0 hfb
    go_wp2_with fail
    refine hfb1.mono ?_
    rintro e u2 ⟨rfl, hb2⟩
    have H2 := Lib.hid (H1.out.trans (hb2.mono H1.out.size))
    have hin2 := hin u2 H2.out
    clear hb2 hfb1 hin
    go_wp2_with fail
    refine hin2.mono ?_
    rintro e u3 ⟨rfl, hb3⟩
    have H3 := Lib.hid (H2.out.trans (hb3.mono H2.out.size))
    have href3 := href u3
    clear hb3 hin2 href
    go_wp2_with fail
    refine href3.mono ?_
    rintro e u4 ⟨rfl, hb4⟩
    have H4 := Lib.hid (H3.out.trans (hb4.mono H3.out.size))
    have hcm4 := hcm u4 H4.out
    clear hb4 href3 hcm
    go_wp2_with fail
    refine hcm4.mono ?_
    rintro e u5 ⟨rfl, hb5⟩
    have H5 := Lib.hid (H4.out.trans (hb5.mono H4.out.size))
    have hii5 := hii u5 H5.out
    clear hb5 hcm4 hii
    go_wp2_with fail
    refine hii5.mono ?_
    rintro e u6 ⟨rfl, hb6⟩
    have H6 := Lib.hid (H5.out.trans (hb6.mono H5.out.size))
    have hsg6 := hsg u6 H6.out
    clear hb6 hii5 hsg
    go_wp2_with fail
    refine hsg6.mono ?_
    rintro e u7 ⟨rfl, hb7⟩
    have H7 := Lib.hid (H6.out.trans (hb7.mono H6.out.size))
    have hc07 := hc0 u7 H7.out
    clear hb7 hsg6 hc0
    go_wp2_with fail
    refine hc07.mono ?_
    rintro e u8 ⟨rfl, hb8⟩
    have H8 := Lib.hid (H7.out.trans (hb8.mono H7.out.size))
    have haw8 := haw u8 H8.out
    clear hb8 hc07 haw
    go_wp2_with fail
    refine haw8.mono ?_
    rintro e u9 ⟨rfl, hb9⟩
    have H9 := Lib.hid (H8.out.trans (hb9.mono H8.out.size))
    clear hb9 haw8
    go_wp2
    go_ret
    exact ⟨rfl, H9.out⟩)
theorem law_any (n m : Int) (w : World) (h : Env w) (n1 : -9223372036854775808 ≤ n) (n2 : n ≤ 9223372036854775807) (m1 : -9223372036854775808 ≤ m) (m2 : m ≤ 9223372036854775807) :
    Calls Tryz.prog 5 #[.int .i64 n, .int .i64 m] w fun e w' => e = .returned (.bool true) ∧ Below w.heap.size w w' :=
  law_from n m (cmpI n m) w h n1 n2 m1 m2 rfl (by
    unfold cmpI
    rcases Int.lt_trichotomy n m with h1 | h1 | h1
    · exact .inl ⟨h1, if_pos h1⟩
    · exact .inr (.inr ⟨h1, by rw [if_neg (by omega), if_neg (by omega)]⟩)
    · exact .inr (.inl ⟨h1, by rw [if_neg (by omega), if_pos h1]⟩))
end
end Go.Proofs.YtgehimcngljmnaaGreatDoor

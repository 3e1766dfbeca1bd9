/- QuoRem of package exact at integers that are not both small. -/
import Derived.Test.YthefknoicelhaaaGreatDoorFNL
import Derived.Test.YthefknoicelhaaaGreatDoorFNN
import Derived.Deep.RegionHeld3
import Derived.Deep.DeepCutAuto
namespace Go.Proofs.YthefknoicelhaaaGreatDoor
open Go.RowKit Nmx

theorem ediv_of {a b q r : Int} (hb : b ≠ 0) (e : q * b + r = a) (hr : 0 ≤ r) (hl : r < b.natAbs) : a / b = q ∧ a % b = r := by
  have e2 : a = r + b * q := by rw [← e, Int.mul_comm]; omega
  have e3 : r / b = 0 ∧ r % b = r := by
    rcases Int.lt_or_gt_of_ne hb with hn | hp
    · have : r / (-b) = 0 := Int.ediv_eq_zero_of_lt hr (by omega)
      have h4 : r % (-b) = r := Int.emod_eq_of_lt hr (by omega)
      rw [Int.ediv_neg] at this
      rw [Int.emod_neg] at h4
      exact ⟨by omega, h4⟩
    · exact ⟨Int.ediv_eq_zero_of_lt hr (by omega), Int.emod_eq_of_lt hr (by omega)⟩
  rw [e2]
  refine ⟨?_, ?_⟩
  · rw [Int.add_mul_ediv_left _ _ hb, e3.1, Int.zero_add]
  · rw [Int.add_mul_emod_self_left, e3.2]
/-- quotient and remainder out of those of the magnitudes -/
theorem quoRem_mags {a b : Int} (hb : b ≠ 0) :
    ((¬ a < 0 ∨ a.natAbs % b.natAbs = 0) → a / b = sgn (decide (a < 0) != decide (b < 0)) (a.natAbs / b.natAbs) ∧ a % b = ((a.natAbs % b.natAbs : Nat) : Int)) ∧
    ((a < 0 ∧ a.natAbs % b.natAbs ≠ 0 ∧ b < 0) → a / b = sgn (decide (a < 0) != decide (b < 0)) (a.natAbs / b.natAbs) + 1 ∧ a % b = (b.natAbs : Int) - ((a.natAbs % b.natAbs : Nat) : Int)) ∧
    ((a < 0 ∧ a.natAbs % b.natAbs ≠ 0 ∧ ¬ b < 0) → a / b = sgn (decide (a < 0) != decide (b < 0)) (a.natAbs / b.natAbs) - 1 ∧ a % b = (b.natAbs : Int) - ((a.natAbs % b.natAbs : Nat) : Int)) := by
  have hm := Nat.div_add_mod a.natAbs b.natAbs
  have hl := Nat.mod_lt a.natAbs (show 0 < b.natAbs by omega)
  obtain ⟨Y, hY⟩ : ∃ Y : Nat, b.natAbs = Y := ⟨_, rfl⟩
  obtain ⟨X, hX⟩ : ∃ X : Nat, a.natAbs = X := ⟨_, rfl⟩
  rw [hX, hY] at hm hl ⊢
  generalize X / Y = t at *
  generalize X % Y = m at *
  have hYb : b = if b < 0 then -(Y : Int) else Y := by split <;> omega
  have hXa : a = if a < 0 then -((Y * t + m : Nat) : Int) else ((Y * t + m : Nat) : Int) := by rw [hm]; split <;> omega
  rw [Int.natCast_add, Int.natCast_mul] at hXa
  refine ⟨fun h => ?_, fun h => ?_, fun h => ?_⟩
  · refine ediv_of hb ?_ (by omega) (by omega)
    by_cases hb2 : b < 0 <;> by_cases ha2 : a < 0
    · rw [if_pos hb2] at hYb; rw [if_pos ha2] at hXa
      rw [decide_eq_true hb2, decide_eq_true ha2]
      have : m = 0 := by omega
      simp only [sgn, bne_self_eq_false, Bool.false_eq_true, if_false]
      rw [hYb, hXa]; grind
    · rw [if_pos hb2] at hYb; rw [if_neg ha2] at hXa
      rw [decide_eq_true hb2, decide_eq_false ha2]
      simp only [sgn, Bool.false_bne, if_true]
      rw [hYb, hXa]; grind
    · rw [if_neg hb2] at hYb; rw [if_pos ha2] at hXa
      rw [decide_eq_false hb2, decide_eq_true ha2]
      have : m = 0 := by omega
      simp only [sgn, Bool.bne_false, if_true]
      rw [hYb, hXa]; grind
    · rw [if_neg hb2] at hYb; rw [if_neg ha2] at hXa
      rw [decide_eq_false hb2, decide_eq_false ha2]
      simp only [sgn, bne_self_eq_false, Bool.false_eq_true, if_false]
      rw [hYb, hXa]; grind
  · obtain ⟨h1, h2, h3⟩ := h
    refine ediv_of hb ?_ (by omega) (by omega)
    rw [if_pos h3] at hYb; rw [if_pos h1] at hXa
    rw [decide_eq_true h3, decide_eq_true h1]
    simp only [sgn, bne_self_eq_false, Bool.false_eq_true, if_false]
    rw [hYb, hXa]; grind
  · obtain ⟨h1, h2, h3⟩ := h
    refine ediv_of hb ?_ (by omega) (by omega)
    rw [if_neg h3] at hYb; rw [if_pos h1] at hXa
    rw [decide_eq_false h3, decide_eq_true h1]
    simp only [sgn, Bool.bne_false, if_true]
    rw [hYb, hXa]; grind

/-- the divisor in block B + 1, two results in blocks B + 2 and B + 3 -/
structure QR0 (w wx : World) (y0 y1 y2 : Value) : Prop where
  hb : wx.heap[w.heap.size + 1]? = some (.cells #[y0, y1, y2] 147 (0, 0))
  h1 : wx.heap[w.heap.size + 2]? = some (.cells #[.int .i64 0, .bool false, .slice none 0 0] 147 (0, 0))
  h2 : wx.heap[w.heap.size + 3]? = some (.cells #[.int .i64 0, .bool false, .slice none 0 0] 147 (0, 0))
  bel : Below w.heap.size w wx
theorem QR0.far {w wx w1 : World} {y0 y1 y2 : Value} (h : QR0 w wx y0 y1 y2) (hb : Below wx.heap.size wx w1) : QR0 w w1 y0 y1 y2 :=
  ⟨(hb.block _ (lt_of_heap h.hb)).trans h.hb, (hb.block _ (lt_of_heap h.h1)).trans h.h1, (hb.block _ (lt_of_heap h.h2)).trans h.h2, h.bel.trans (hb.mono h.bel.size)⟩
theorem QR0.new (w : World) (o : Obj) (y0 y1 y2 : Value) (o2 o3 : Obj) (e2 : o2 = .cells #[.int .i64 0, .bool false, .slice none 0 0] 147) (e3 : o3 = .cells #[.int .i64 0, .bool false, .slice none 0 0] 147) :
    QR0 w ((((w.alloc o).alloc (.cells #[y0, y1, y2] 147)).alloc o2).alloc o3) y0 y1 y2 := by
  subst e2 e3
  refine ⟨?_, (new_fourth w _ _ _ _).2, (new_fourth w _ _ _ _).1, below4 w _ _ _ _⟩
  rw [Below.heap_alloc _ _ _ (by simp), Below.heap_alloc _ _ _ (by simp)]
  exact new_second w o _
theorem QR0.cells {w wx : World} {y0 y1 y2 : Value} (h : QR0 w wx y0 y1 y2) : wx.cell? ⟨w.heap.size + 1, 0, none⟩ = some y0 ∧ wx.cell? ⟨w.heap.size + 1, 1, none⟩ = some y1 ∧ wx.cell? ⟨w.heap.size + 1, 2, none⟩ = some y2 :=
  ⟨heap_cell h.hb 0, heap_cell h.hb 1, heap_cell h.hb 2⟩
/-- and the quotient and the remainder in blocks G and H -/
structure QRS (w wx : World) (G H : Nat) (y0 y1 y2 q0 q1 q2 r0 r1 r2 : Value) : Prop where
  qr : QR0 w wx y0 y1 y2
  hq : wx.heap[G]? = some (.cells #[q0, q1, q2] 147 (0, 0))
  hr : wx.heap[H]? = some (.cells #[r0, r1, r2] 147 (0, 0))
  ne : G < H
  fa : w.heap.size + 3 < G
theorem QRS.far {w wx w1 : World} {G H : Nat} {y0 y1 y2 q0 q1 q2 r0 r1 r2 : Value} (h : QRS w wx G H y0 y1 y2 q0 q1 q2 r0 r1 r2) (hb : Below wx.heap.size wx w1) : QRS w w1 G H y0 y1 y2 q0 q1 q2 r0 r1 r2 :=
  ⟨h.qr.far hb, (hb.block _ (lt_of_heap h.hq)).trans h.hq, (hb.block _ (lt_of_heap h.hr)).trans h.hr, h.ne, h.fa⟩
theorem QR0.drewN {w wx : World} {y0 y1 y2 : Value} (h : QR0 w wx y0 y1 y2) (n : Nat) : QR0 w (wx.drewN n) y0 y1 y2 := ⟨h.hb, h.h1, h.h2, below_drewN h.bel n⟩
theorem QRS.drewN {w wx : World} {G H : Nat} {y0 y1 y2 q0 q1 q2 r0 r1 r2 : Value} (h : QRS w wx G H y0 y1 y2 q0 q1 q2 r0 r1 r2) (n : Nat) : QRS w (wx.drewN n) G H y0 y1 y2 q0 q1 q2 r0 r1 r2 := ⟨h.qr.drewN n, h.hq, h.hr, h.ne, h.fa⟩
theorem QRS.new {w wx : World} {y0 y1 y2 : Value} (q0 q1 q2 r0 r1 r2 : Value) (h : QR0 w wx y0 y1 y2) : QRS w ((wx.alloc (.cells #[q0, q1, q2] 147)).alloc (.cells #[r0, r1, r2] 147)) wx.heap.size (wx.heap.size + 1) y0 y1 y2 q0 q1 q2 r0 r1 r2 := by
  refine ⟨h.far ((Below.refl _ _).alloc (Nat.le_refl _) _ |>.alloc (by simp) _), ?_, new_second wx _ _, by omega, lt_of_heap h.h2⟩
  rw [Below.heap_alloc _ _ _ (by simp)]
  exact heap_alloc_new wx _
theorem QRS.cells {w wx : World} {G H : Nat} {y0 y1 y2 q0 q1 q2 r0 r1 r2 : Value} (h : QRS w wx G H y0 y1 y2 q0 q1 q2 r0 r1 r2) : (wx.cell? ⟨w.heap.size + 1, 0, none⟩ = some y0 ∧ wx.cell? ⟨w.heap.size + 1, 1, none⟩ = some y1 ∧ wx.cell? ⟨w.heap.size + 1, 2, none⟩ = some y2) ∧ (wx.cell? ⟨G, 0, none⟩ = some q0 ∧ wx.cell? ⟨G, 1, none⟩ = some q1 ∧ wx.cell? ⟨G, 2, none⟩ = some q2) ∧ (wx.cell? ⟨H, 0, none⟩ = some r0 ∧ wx.cell? ⟨H, 1, none⟩ = some r1 ∧ wx.cell? ⟨H, 2, none⟩ = some r2) ∧ (∀ i, wx.frozen? ⟨G, i, none⟩ = false) ∧ (∀ i, wx.frozen? ⟨H, i, none⟩ = false) :=
  ⟨h.qr.cells, ⟨heap_cell h.hq 0, heap_cell h.hq 1, heap_cell h.hq 2⟩, ⟨heap_cell h.hr 0, heap_cell h.hr 1, heap_cell h.hr 2⟩, fun i => heap_fz h.hq i, fun i => heap_fz h.hr i⟩
theorem QRS.setQ {w wx : World} {G H : Nat} {y0 y1 y2 q0 q1 q2 r0 r1 r2 : Value} (h : QRS w wx G H y0 y1 y2 q0 q1 q2 r0 r1 r2) (x y z : Value) : QRS w (((wx.setCell ⟨G, 0, none⟩ x).setCell ⟨G, 1, none⟩ y).setCell ⟨G, 2, none⟩ z) G H y0 y1 y2 x y z r0 r1 r2 := by
  have h1 := h.ne
  have h2 := h.fa
  refine ⟨⟨?_, ?_, ?_, ?_⟩, set3_heap h.hq, ?_, h1, h2⟩
  · rw [set3_other _ _ _ (by omega)]; exact h.qr.hb
  · rw [set3_other _ _ _ (by omega)]; exact h.qr.h1
  · rw [set3_other _ _ _ (by omega)]; exact h.qr.h2
  · exact ((h.qr.bel.setCell (show w.heap.size ≤ (⟨G, 0, none⟩ : Addr).block by show _ ≤ G; omega) _).setCell (show w.heap.size ≤ (⟨G, 1, none⟩ : Addr).block by show _ ≤ G; omega) _).setCell (show w.heap.size ≤ (⟨G, 2, none⟩ : Addr).block by show _ ≤ G; omega) _
  · rw [set3_other _ _ _ (by omega)]; exact h.hr
theorem QRS.setR {w wx : World} {G H : Nat} {y0 y1 y2 q0 q1 q2 r0 r1 r2 : Value} (h : QRS w wx G H y0 y1 y2 q0 q1 q2 r0 r1 r2) (x y z : Value) : QRS w (((wx.setCell ⟨H, 0, none⟩ x).setCell ⟨H, 1, none⟩ y).setCell ⟨H, 2, none⟩ z) G H y0 y1 y2 q0 q1 q2 x y z := by
  have h1 := h.ne
  have h2 := h.fa
  refine ⟨⟨?_, ?_, ?_, ?_⟩, ?_, set3_heap h.hr, h1, h2⟩
  · rw [set3_other _ _ _ (by omega)]; exact h.qr.hb
  · rw [set3_other _ _ _ (by omega)]; exact h.qr.h1
  · rw [set3_other _ _ _ (by omega)]; exact h.qr.h2
  · exact ((h.qr.bel.setCell (show w.heap.size ≤ (⟨H, 0, none⟩ : Addr).block by show _ ≤ H; omega) _).setCell (show w.heap.size ≤ (⟨H, 1, none⟩ : Addr).block by show _ ≤ H; omega) _).setCell (show w.heap.size ≤ (⟨H, 2, none⟩ : Addr).block by show _ ≤ H; omega) _
  · rw [set3_other _ _ _ (by omega)]; exact h.hq
theorem QRS.drew {w wx : World} {G H : Nat} {y0 y1 y2 q0 q1 q2 r0 r1 r2 : Value} (h : QRS w wx G H y0 y1 y2 q0 q1 q2 r0 r1 r2) : QRS w wx.drew G H y0 y1 y2 q0 q1 q2 r0 r1 r2 := ⟨⟨h.qr.hb, h.qr.h1, h.qr.h2, h.qr.bel.drew⟩, h.hq, h.hr, h.ne, h.fa⟩
theorem fit_le {z : Int} {n : Nat} (h : Fit z) (hn : n ≤ z.natAbs) {y : Int} (hy : y.natAbs = n) : Fit y := by
  unfold Fit at *; rw [hy]; exact Nat.lt_of_le_of_lt hn h
theorem sgn_mag (b : Bool) (n : Nat) : (sgn b n).natAbs = n := by
  cases b
  · show ((n : Nat) : Int).natAbs = n; exact Int.natAbs_natCast n
  · show (-((n : Nat) : Int)).natAbs = n; rw [Int.natAbs_neg]; exact Int.natAbs_natCast n
theorem fit_one : Fit 1 := fit_of (k := 1) (by rw [Nat.pow_one, BB_eq]; decide) (by omega)

section
set_option maxRecDepth 100000
set_option maxHeartbeats 40000000
theorem IV.drewN {w : World} {v : Value} {z : Int} (h : IV w v z) (n : Nat) : IV (w.drewN n) v z := h.far (below_drewN (Below.refl _ _) n)
theorem IV.drew {w : World} {v : Value} {z : Int} (h : IV w v z) : IV w.drew v z := h.far (Below.refl _ _).drew
theorem quoRem_all :
    (∀ {za zb : Int} {b1 b2 : Bool} {ad1 ad2 : Addr} {n1 c1 n2 c2 : Nat} (w : World) (_ : IV w (.agg #[.int .i64 0, .bool b1, .slice (some ad1) n1 c1]) za) (_ : IV w (.agg #[.int .i64 0, .bool b2, .slice (some ad2) n2 c2]) zb) (_ : Fit za) (_ : Fit zb) (_ : zb ≠ 0), Calls Tryz.prog 149 #[.agg #[.int .i64 0, .bool b1, .slice (some ad1) n1 c1], .agg #[.int .i64 0, .bool b2, .slice (some ad2) n2 c2]] w (QRPost za zb w)) ∧
    (∀ {za zb : Int} {s2 : Int} {b1 b2 : Bool} {ad1 : Addr} {n1 c1 : Nat} (w : World) (_ : IV w (.agg #[.int .i64 0, .bool b1, .slice (some ad1) n1 c1]) za) (_ : IV w (.agg #[.int .i64 s2, .bool b2, .slice none 0 0]) zb) (_ : Fit za) (_ : Fit zb) (_ : zb ≠ 0), Calls Tryz.prog 149 #[.agg #[.int .i64 0, .bool b1, .slice (some ad1) n1 c1], .agg #[.int .i64 s2, .bool b2, .slice none 0 0]] w (QRPost za zb w)) ∧
    (∀ {za zb : Int} {s1 : Int} {b1 b2 : Bool} {ad2 : Addr} {n2 c2 : Nat} (w : World) (_ : IV w (.agg #[.int .i64 s1, .bool b1, .slice none 0 0]) za) (_ : IV w (.agg #[.int .i64 0, .bool b2, .slice (some ad2) n2 c2]) zb) (_ : Fit za) (_ : Fit zb) (_ : zb ≠ 0), Calls Tryz.prog 149 #[.agg #[.int .i64 s1, .bool b1, .slice none 0 0], .agg #[.int .i64 0, .bool b2, .slice (some ad2) n2 c2]] w (QRPost za zb w)) := by
  refine ⟨?g1, ?g2, ?g3⟩
  focus
    intro za zb b1 b2 ad1 ad2 n1 c1 n2 c2 w ha hb fa fb h0
  rotate_left
  focus
    intro za zb s2 b1 b2 ad1 n1 c1 w ha hb fa fb h0
  rotate_left
  focus
    intro za zb s1 b1 b2 ad2 n2 c2 w ha hb fa fb h0
  rotate_left
  all_goals
    have kq := mag_eql
    have kq0 := mag_eql0
    obtain ⟨d1, d2, d3⟩ := quoRem_mags (a := za) h0
    have D1 := Lib.hid d1
    have D2 := Lib.hid d2
    have D3 := Lib.hid d3
    have FA := Lib.hid fa
    have FB := Lib.hid fb
    have H0 := Lib.hid h0
    have hpa := fun (W' : World) (hB : Below w.heap.size w W') => parts_any _ _ W' (ha.far hB)
    have hpb := fun (W' : World) (hB : Below w.heap.size w W') => parts_any _ _ W' (hb.far hB)
    have HYV := Lib.hid hb
  focus
    have HS0 := Lib.hid (QR0.new w (.cells #[.int .i64 0, .bool b1, .slice (some ad1) n1 c1] 147) (.int .i64 0) (.bool b2) (.slice (some ad2) n2 c2) _ _ rfl rfl)
  rotate_left
  focus
    have HS0 := Lib.hid (QR0.new w (.cells #[.int .i64 0, .bool b1, .slice (some ad1) n1 c1] 147) (.int .i64 s2) (.bool b2) (.slice none 0 0) _ _ rfl rfl)
  rotate_left
  focus
    have HS0 := Lib.hid (QR0.new w (.cells #[.int .i64 s1, .bool b1, .slice none 0 0] 147) (.int .i64 0) (.bool b2) (.slice (some ad2) n2 c2) _ _ rfl rfl)
  rotate_left
  all_goals
    have hf1 := fun W => fromInt64_any 1 W (by omega) (by omega)
    clear ha hb fa fb d1 d2 d3 h0
    go_enter Tryz.func149, Tryz.ntmps149
    go_wp2_with fail
    refine (hpa _ HS0.out.bel).mono ?_
    rintro e w1 ⟨va', la, rfl, hva, hna, hla, -, hb1⟩
    have HS1 := Lib.hid (HS0.out.far hb1)
    have hlla := fit_len hna hla FA.out
    obtain ⟨y0, y1, y2⟩ := HS1.out.cells
    have HVA := Lib.hid hva
    have HNA := Lib.hid hna
    have HLA := Lib.hid hla
    clear hb1 hva hna hla hpa HS0
    go_wp2_with fail
    refine (hpb _ HS1.out.bel).mono ?_
    rintro e w2 ⟨vb', lb, rfl, hvb, hnb, hlb, -, hb2⟩
    have HS2 := Lib.hid (HS1.out.far hb2)
    have HVA2 := Lib.hid (HVA.out.far hb2)
    have HVB := Lib.hid hvb
    have HNB := Lib.hid hnb
    have HLB := Lib.hid hlb
    have hbne : lb ≠ [] := by
      intro e
      have := HLB.out
      have := H0.out
      rw [e, wv_nil] at *
      omega
    have hdv := divWords_any va' vb' la lb w2 HVA2.out HVB.out HNA.out HNB.out (by omega) hbne
    clear hb2 hvb hnb hlb hpb HS1 HVA y0 y1 y2 hbne
    go_wp2_with fail
    refine hdv.mono ?_
    rintro e w3 ⟨v3, v4, l3, l4, rfl, hv3, hv4, hw3, hw4, hl3, hl4, hb3⟩
    have HS3 := Lib.hid (HS2.out.far hb3)
    have hfq := fromParts_any (decide (za < 0) != decide (zb < 0)) v3 l3 w3 hv3 (by omega)
    have hfr := fun (W : World) (hW : Below w3.heap.size w3 W) => fromParts_any false v4 l4 W (hv4.far hW) (by omega)
    have HW3 := Lib.hid hw3
    have HW4 := Lib.hid hw4
    clear hb3 hv3 hw3 hv4 hw4 hdv HS2
    go_wp2_with fail
    refine hfq.mono ?_
    rintro e w4 ⟨v6, rfl, hv6, hb4⟩
    have HS4 := Lib.hid (HS3.out.far hb4)
    have HQ0 := Lib.hid hv6
    obtain ⟨s6, b6, a6, n6, c6, rfl⟩ := iv_form hv6
    have hfr4 := hfr w4 hb4
    clear hv6 hb4 hfq hfr HS3
    go_wp2_with fail
    refine hfr4.mono ?_
    rintro e w5 ⟨v7, rfl, hv7, hb5⟩
    have HS5 := Lib.hid (HS4.out.far hb5)
    have HQ5 := Lib.hid (HQ0.out.far hb5)
    have HR5 := Lib.hid hv7
    obtain ⟨s7, b7, a7, n7, c7, rfl⟩ := iv_form hv7
    have hlt5 := HS5.out.bel.size
    have HS := Lib.hid (QRS.new (.int .i64 s6) (.bool b6) (.slice a6 n6 c6) (.int .i64 s7) (.bool b7) (.slice a7 n7 c7) HS5.out)
    have hal : Below w5.heap.size w5 ((w5.alloc (.cells #[.int .i64 s6, .bool b6, .slice a6 n6 c6] 147)).alloc (.cells #[.int .i64 s7, .bool b7, .slice a7 n7 c7] 147)) := below2 w5 _ _
    have HQ := Lib.hid (HQ5.out.far hal)
    have HR := Lib.hid (HR5.out.far hal)
    have HY := Lib.hid (HYV.out.far HS.out.qr.bel)
    have EQ : Hid (sgn (decide (za < 0) != decide (zb < 0)) (wv l3) = sgn (decide (za < 0) != decide (zb < 0)) (za.natAbs / zb.natAbs)) := Lib.hid (by rw [HW3.out, HLA.out, HLB.out])
    have ER : Hid (sgn false (wv l4) = ((za.natAbs % zb.natAbs : Nat) : Int)) := Lib.hid (by rw [HW4.out, HLA.out, HLB.out]; rfl)
    rw [EQ.out] at HQ
    rw [ER.out] at HR
    have FQ : Hid (Fit (sgn (decide (za < 0) != decide (zb < 0)) (za.natAbs / zb.natAbs))) := Lib.hid (fit_le FA.out (Nat.div_le_self _ _) (sgn_mag _ _))
    have FR : Hid (Fit ((za.natAbs % zb.natAbs : Nat) : Int)) := Lib.hid (fit_le FA.out (Nat.mod_le _ _) (Int.natAbs_natCast _))
    have FY : Hid (Fit (zb.natAbs : Int)) := Lib.hid (fit_le FB.out (Nat.le_refl _) (Int.natAbs_natCast _))
    clear hv7 hb5 hfr4 HS4 HS5 HQ5 HR5 HQ0 hal HW3 HW4 HLA HLB HNA HNB HVA2 HVB EQ ER FA FB
    generalize sgn (decide (za < 0) != decide (zb < 0)) (za.natAbs / zb.natAbs) = Q at *
    generalize za.natAbs % zb.natAbs = M at *
    have HX : Hid (True) := Lib.hid trivial
    by_cases han : za < 0
    · have hanb : decide (za < 0) = true := decide_eq_true han
      have HN := Lib.hid han
      clear han
      obtain ⟨⟨y0, y1, y2⟩, ⟨q0, q1, q2⟩, ⟨r0, r1, r2⟩, fq, fr⟩ := HS.out.cells
      go_wp2_with fail
      generalize ((w5.alloc (.cells #[.int .i64 s6, .bool b6, .slice a6 n6 c6] 147)).alloc (.cells #[.int .i64 s7, .bool b7, .slice a7 n7 c7] 147)) = w6 at *
      generalize w5.heap.size + 1 = H at *
      generalize w5.heap.size = G at *
      have hiz := isZero_any _ _ w6 HR.out
      have hMz : decide (((M : Nat) : Int) = 0) = decide (M = 0) := by rw [decide_eq_decide]; omega
      rw [hMz] at hiz
      clear hMz
      refine hiz.mono ?_
      rintro e w7 ⟨rfl, hb7⟩
      have HS7 := Lib.hid (HS.out.far hb7)
      have HQ7 := Lib.hid (HQ.out.far hb7)
      have HR7 := Lib.hid (HR.out.far hb7)
      have HY7 := Lib.hid (HY.out.far hb7)
      clear hiz hb7 y0 y1 y2 q0 q1 q2 r0 r1 r2 fq fr HS HQ HR HY
      obtain ⟨⟨y0, y1, y2⟩, ⟨q0, q1, q2⟩, ⟨r0, r1, r2⟩, fq, fr⟩ := HS7.out.cells
      by_cases hm0 : M = 0
      · have hmb : decide (M = 0) = true := decide_eq_true hm0
        have HE := Lib.hid (D1.out (.inr hm0))
        clear hm0
        go_wp2_with fail
        obtain ⟨f0, f1⟩ := (⟨fun i => heap_fz HS7.out.qr.h1 i, fun i => heap_fz HS7.out.qr.h2 i⟩ : (∀ i, w7.frozen? ⟨w.heap.size + 2, i, none⟩ = false) ∧ (∀ i, w7.frozen? ⟨w.heap.size + 3, i, none⟩ = false))
        obtain ⟨⟨z0, z1, z2⟩, z3, z4, z5⟩ := (⟨⟨heap_cell HS7.out.qr.h1 0, heap_cell HS7.out.qr.h1 1, heap_cell HS7.out.qr.h1 2⟩, heap_cell HS7.out.qr.h2 0, heap_cell HS7.out.qr.h2 1, heap_cell HS7.out.qr.h2 2⟩ : (w7.cell? ⟨w.heap.size + 2, 0, none⟩ = some (.int .i64 0) ∧ w7.cell? ⟨w.heap.size + 2, 1, none⟩ = some (.bool false) ∧ w7.cell? ⟨w.heap.size + 2, 2, none⟩ = some (.slice none 0 0)) ∧ w7.cell? ⟨w.heap.size + 3, 0, none⟩ = some (.int .i64 0) ∧ w7.cell? ⟨w.heap.size + 3, 1, none⟩ = some (.bool false) ∧ w7.cell? ⟨w.heap.size + 3, 2, none⟩ = some (.slice none 0 0))
        have hfa := HS7.out.fa
        have hne := HS7.out.ne
        have n1 : G ≠ w.heap.size + 2 := by omega
        have n2 : G ≠ w.heap.size + 3 := by omega
        have n3 : H ≠ w.heap.size + 2 := by omega
        have n4 : H ≠ w.heap.size + 3 := by omega
        have n5 : w.heap.size + 2 ≠ w.heap.size + 3 := by omega
        go_region
        all_goals go_wp2
        have HSd := Lib.hid HS7.out.drew
        have HQd := Lib.hid (IV.drew HQ7.out)
        have HRd := Lib.hid (IV.drew HR7.out)
        simp only [← World.setCell_drew]
        exact end_two Tryz.results149 rfl rfl rfl HSd.out.qr.h1 HSd.out.qr.h2 (by omega) HQd.out HRd.out HE.out.1 HE.out.2 HSd.out.qr.bel (by omega) (by omega)
      · have hmb : decide (M = 0) = false := decide_eq_false hm0
        have HM := Lib.hid hm0
        clear hm0
        by_cases hbn : zb < 0
        · have hbnb : decide (zb < 0) = true := decide_eq_true hbn
          have HE := Lib.hid (D2.out ⟨HN.out, HM.out, hbn⟩)
          clear hbn
          go_wp2_with fail
          go_cut [] (fun wx => ∃ z0 z1 z2 s9 b9 a9 n9 c9, QRS w wx G H z0 z1 z2 (.int .i64 s9) (.bool b9) (.slice a9 n9 c9) (.int .i64 s7) (.bool b7) (.slice a7 n7 c7) ∧ IV wx (.agg #[.int .i64 s9, .bool b9, .slice a9 n9 c9]) (Q + 1) ∧ IV wx (.agg #[.int .i64 s7, .bool b7, .slice a7 n7 c7]) ((M : Nat) : Int) ∧ IV wx (.agg #[z0, z1, z2]) zb)
          case first =>
            go_region_with ((first
              | (go_at_call 159
                 refine (hf1 _).mono ?_
                 rintro e w8 ⟨v8, rfl, hv8, hb8⟩
                 have HS8 := Lib.hid ((HS7.out.drewN _).far hb8)
                 obtain ⟨k0, k1, k2⟩ := HS8.out.cells.2.1
                 have fk := HS8.out.cells.2.2.2.1
                 have HQ8 := Lib.hid ((IV.drewN HQ7.out _).far hb8)
                 have HR8 := Lib.hid ((IV.drewN HR7.out _).far hb8)
                 have HY8 := Lib.hid ((IV.drewN HY7.out _).far hb8)
                 have HV8 := Lib.hid hv8
                 obtain ⟨s8, b8, a8, n8, c8, rfl⟩ := iv_form hv8)
              | (go_at_call 158
                 refine (add_any _ _ _ _ _ HQ8.out HV8.out FQ.out fit_one).mono ?_
                 rintro e w9 ⟨v9, rfl, hv9, hb9⟩
                 have HS9 := Lib.hid (HS8.out.far hb9)
                 have HR9 := Lib.hid (HR8.out.far hb9)
                 have HY9 := Lib.hid (HY8.out.far hb9)
                 have HQ9 := Lib.hid hv9
                 obtain ⟨s9, b9, a9, n9, c9, rfl⟩ := iv_form hv9
                 obtain ⟨g0, g1, g2⟩ := HS9.out.cells.2.1
                 have fg := HS9.out.cells.2.2.2.1)))
            all_goals
              go_wp2_with fail
              go_meet
              exact ⟨_, _, _, s9, b9, a9, n9, c9, HS9.out.setQ _ _ _, IV.set3 HQ9.out HS9.out.hq _ _ _, IV.set3 HR9.out HS9.out.hq _ _ _, IV.set3 HY9.out HS9.out.hq _ _ _⟩
          case rest =>
            obtain ⟨z0, z1, z2, s9, b9, a9, n9, c9, hs10, hq10, hr10, hy10⟩ := hcut
            have HS10 := Lib.hid hs10
            have HQ10 := Lib.hid hq10
            have HR10 := Lib.hid hr10
            have HY10 := Lib.hid hy10
            clear hs10 hq10 hr10 hy10 y0 y1 y2 q0 q1 q2 r0 r1 r2 fq fr
            obtain ⟨⟨y0, y1, y2⟩, ⟨q0, q1, q2⟩, ⟨r0, r1, r2⟩, fq, fr⟩ := HS10.out.cells
            go_upto_region 16 with fail
            go_cut [] (fun wx => ∃ z0 z1 z2 s12 b12 a12 n12 c12, QRS w wx G H z0 z1 z2 (.int .i64 s9) (.bool b9) (.slice a9 n9 c9) (.int .i64 s12) (.bool b12) (.slice a12 n12 c12) ∧ IV wx (.agg #[.int .i64 s9, .bool b9, .slice a9 n9 c9]) (Q + 1) ∧ IV wx (.agg #[.int .i64 s12, .bool b12, .slice a12 n12 c12]) ((zb.natAbs : Int) - ((M : Nat) : Int)))
            case first =>
              go_region_with ((first
                | (go_at_call 148
                   refine (abs_any _ _ _ (IV.drewN HY10.out _)).mono ?_
                   rintro e w11 ⟨v11, rfl, hv11, hb11⟩
                   have HS11 := Lib.hid ((HS10.out.drewN _).far hb11)
                   obtain ⟨k0, k1, k2⟩ := HS11.out.cells.2.2.1
                   have HQ11 := Lib.hid ((IV.drewN HQ10.out _).far hb11)
                   have HR11 := Lib.hid ((IV.drewN HR10.out _).far hb11)
                   have HV11 := Lib.hid hv11
                   obtain ⟨s11, b11, a11, n11, c11, rfl⟩ := iv_form hv11)
                | (go_at_call 160
                   refine (sub_any _ _ _ _ _ HV11.out HR11.out FY.out FR.out).mono ?_
                   rintro e w12 ⟨v12, rfl, hv12, hb12⟩
                   have HS12 := Lib.hid (HS11.out.far hb12)
                   have HQ12 := Lib.hid (HQ11.out.far hb12)
                   have HR12 := Lib.hid hv12
                   obtain ⟨s12, b12, a12, n12, c12, rfl⟩ := iv_form hv12
                   obtain ⟨g0, g1, g2⟩ := HS12.out.cells.2.2.1
                   have fg := HS12.out.cells.2.2.2.2)))
              all_goals
                go_wp2_with fail
                go_meet
                exact ⟨_, _, _, s12, b12, a12, n12, c12, HS12.out.setR _ _ _, IV.set3 HQ12.out HS12.out.hr _ _ _, IV.set3 HR12.out HS12.out.hr _ _ _⟩
            case rest =>
              obtain ⟨z0, z1, z2, s12, b12, a12, n12, c12, hs13, hq13, hr13⟩ := hcut
              have HS13 := Lib.hid hs13
              have HQ13 := Lib.hid hq13
              have HR13 := Lib.hid hr13
              clear hs13 hq13 hr13 y0 y1 y2 q0 q1 q2 r0 r1 r2 fq fr
              obtain ⟨⟨y0, y1, y2⟩, ⟨q0, q1, q2⟩, ⟨r0, r1, r2⟩, fq, fr⟩ := HS13.out.cells
              have HE2 := Lib.hid HE.out.2
              go_wp2_with fail
              obtain ⟨f0, f1⟩ := (⟨fun i => heap_fz HS13.out.qr.h1 i, fun i => heap_fz HS13.out.qr.h2 i⟩ : (∀ i, wc.frozen? ⟨w.heap.size + 2, i, none⟩ = false) ∧ (∀ i, wc.frozen? ⟨w.heap.size + 3, i, none⟩ = false))
              obtain ⟨⟨z0, z1, z2⟩, z3, z4, z5⟩ := (⟨⟨heap_cell HS13.out.qr.h1 0, heap_cell HS13.out.qr.h1 1, heap_cell HS13.out.qr.h1 2⟩, heap_cell HS13.out.qr.h2 0, heap_cell HS13.out.qr.h2 1, heap_cell HS13.out.qr.h2 2⟩ : (wc.cell? ⟨w.heap.size + 2, 0, none⟩ = some (.int .i64 0) ∧ wc.cell? ⟨w.heap.size + 2, 1, none⟩ = some (.bool false) ∧ wc.cell? ⟨w.heap.size + 2, 2, none⟩ = some (.slice none 0 0)) ∧ wc.cell? ⟨w.heap.size + 3, 0, none⟩ = some (.int .i64 0) ∧ wc.cell? ⟨w.heap.size + 3, 1, none⟩ = some (.bool false) ∧ wc.cell? ⟨w.heap.size + 3, 2, none⟩ = some (.slice none 0 0))
              have hfa := HS13.out.fa
              have hne := HS13.out.ne
              have n1 : G ≠ w.heap.size + 2 := by omega
              have n2 : G ≠ w.heap.size + 3 := by omega
              have n3 : H ≠ w.heap.size + 2 := by omega
              have n4 : H ≠ w.heap.size + 3 := by omega
              have n5 : w.heap.size + 2 ≠ w.heap.size + 3 := by omega
              go_region
              all_goals go_wp2
              have HSd := Lib.hid HS13.out.drew
              have HQd := Lib.hid (IV.drew HQ13.out)
              have HRd := Lib.hid (IV.drew HR13.out)
              simp only [← World.setCell_drew]
              exact end_two Tryz.results149 rfl rfl rfl HSd.out.qr.h1 HSd.out.qr.h2 (by omega) HQd.out HRd.out HE.out.1 HE.out.2 HSd.out.qr.bel (by omega) (by omega)
        · have hbnb : decide (zb < 0) = false := decide_eq_false hbn
          have HE := Lib.hid (D3.out ⟨HN.out, HM.out, by omega⟩)
          clear hbn
          go_wp2_with fail
          go_cut [] (fun wx => ∃ z0 z1 z2 s9 b9 a9 n9 c9, QRS w wx G H z0 z1 z2 (.int .i64 s9) (.bool b9) (.slice a9 n9 c9) (.int .i64 s7) (.bool b7) (.slice a7 n7 c7) ∧ IV wx (.agg #[.int .i64 s9, .bool b9, .slice a9 n9 c9]) (Q - 1) ∧ IV wx (.agg #[.int .i64 s7, .bool b7, .slice a7 n7 c7]) ((M : Nat) : Int) ∧ IV wx (.agg #[z0, z1, z2]) zb)
          case first =>
            go_region_with ((first
              | (go_at_call 159
                 refine (hf1 _).mono ?_
                 rintro e w8 ⟨v8, rfl, hv8, hb8⟩
                 have HS8 := Lib.hid ((HS7.out.drewN _).far hb8)
                 obtain ⟨k0, k1, k2⟩ := HS8.out.cells.2.1
                 have fk := HS8.out.cells.2.2.2.1
                 have HQ8 := Lib.hid ((IV.drewN HQ7.out _).far hb8)
                 have HR8 := Lib.hid ((IV.drewN HR7.out _).far hb8)
                 have HY8 := Lib.hid ((IV.drewN HY7.out _).far hb8)
                 have HV8 := Lib.hid hv8
                 obtain ⟨s8, b8, a8, n8, c8, rfl⟩ := iv_form hv8)
              | (go_at_call 160
                 refine (sub_any _ _ _ _ _ HQ8.out HV8.out FQ.out fit_one).mono ?_
                 rintro e w9 ⟨v9, rfl, hv9, hb9⟩
                 have HS9 := Lib.hid (HS8.out.far hb9)
                 have HR9 := Lib.hid (HR8.out.far hb9)
                 have HY9 := Lib.hid (HY8.out.far hb9)
                 have HQ9 := Lib.hid hv9
                 obtain ⟨s9, b9, a9, n9, c9, rfl⟩ := iv_form hv9
                 obtain ⟨g0, g1, g2⟩ := HS9.out.cells.2.1
                 have fg := HS9.out.cells.2.2.2.1)))
            all_goals
              go_wp2_with fail
              go_meet
              exact ⟨_, _, _, s9, b9, a9, n9, c9, HS9.out.setQ _ _ _, IV.set3 HQ9.out HS9.out.hq _ _ _, IV.set3 HR9.out HS9.out.hq _ _ _, IV.set3 HY9.out HS9.out.hq _ _ _⟩
          case rest =>
            obtain ⟨z0, z1, z2, s9, b9, a9, n9, c9, hs10, hq10, hr10, hy10⟩ := hcut
            have HS10 := Lib.hid hs10
            have HQ10 := Lib.hid hq10
            have HR10 := Lib.hid hr10
            have HY10 := Lib.hid hy10
            clear hs10 hq10 hr10 hy10 y0 y1 y2 q0 q1 q2 r0 r1 r2 fq fr
            obtain ⟨⟨y0, y1, y2⟩, ⟨q0, q1, q2⟩, ⟨r0, r1, r2⟩, fq, fr⟩ := HS10.out.cells
            go_upto_region 16 with fail
            go_cut [] (fun wx => ∃ z0 z1 z2 s12 b12 a12 n12 c12, QRS w wx G H z0 z1 z2 (.int .i64 s9) (.bool b9) (.slice a9 n9 c9) (.int .i64 s12) (.bool b12) (.slice a12 n12 c12) ∧ IV wx (.agg #[.int .i64 s9, .bool b9, .slice a9 n9 c9]) (Q - 1) ∧ IV wx (.agg #[.int .i64 s12, .bool b12, .slice a12 n12 c12]) ((zb.natAbs : Int) - ((M : Nat) : Int)))
            case first =>
              go_region_with ((first
                | (go_at_call 148
                   refine (abs_any _ _ _ (IV.drewN HY10.out _)).mono ?_
                   rintro e w11 ⟨v11, rfl, hv11, hb11⟩
                   have HS11 := Lib.hid ((HS10.out.drewN _).far hb11)
                   obtain ⟨k0, k1, k2⟩ := HS11.out.cells.2.2.1
                   have HQ11 := Lib.hid ((IV.drewN HQ10.out _).far hb11)
                   have HR11 := Lib.hid ((IV.drewN HR10.out _).far hb11)
                   have HV11 := Lib.hid hv11
                   obtain ⟨s11, b11, a11, n11, c11, rfl⟩ := iv_form hv11)
                | (go_at_call 160
                   refine (sub_any _ _ _ _ _ HV11.out HR11.out FY.out FR.out).mono ?_
                   rintro e w12 ⟨v12, rfl, hv12, hb12⟩
                   have HS12 := Lib.hid (HS11.out.far hb12)
                   have HQ12 := Lib.hid (HQ11.out.far hb12)
                   have HR12 := Lib.hid hv12
                   obtain ⟨s12, b12, a12, n12, c12, rfl⟩ := iv_form hv12
                   obtain ⟨g0, g1, g2⟩ := HS12.out.cells.2.2.1
                   have fg := HS12.out.cells.2.2.2.2)))
              all_goals
                go_wp2_with fail
                go_meet
                exact ⟨_, _, _, s12, b12, a12, n12, c12, HS12.out.setR _ _ _, IV.set3 HQ12.out HS12.out.hr _ _ _, IV.set3 HR12.out HS12.out.hr _ _ _⟩
            case rest =>
              obtain ⟨z0, z1, z2, s12, b12, a12, n12, c12, hs13, hq13, hr13⟩ := hcut
              have HS13 := Lib.hid hs13
              have HQ13 := Lib.hid hq13
              have HR13 := Lib.hid hr13
              clear hs13 hq13 hr13 y0 y1 y2 q0 q1 q2 r0 r1 r2 fq fr
              obtain ⟨⟨y0, y1, y2⟩, ⟨q0, q1, q2⟩, ⟨r0, r1, r2⟩, fq, fr⟩ := HS13.out.cells
              have HE2 := Lib.hid HE.out.2
              go_wp2_with fail
              obtain ⟨f0, f1⟩ := (⟨fun i => heap_fz HS13.out.qr.h1 i, fun i => heap_fz HS13.out.qr.h2 i⟩ : (∀ i, wc.frozen? ⟨w.heap.size + 2, i, none⟩ = false) ∧ (∀ i, wc.frozen? ⟨w.heap.size + 3, i, none⟩ = false))
              obtain ⟨⟨z0, z1, z2⟩, z3, z4, z5⟩ := (⟨⟨heap_cell HS13.out.qr.h1 0, heap_cell HS13.out.qr.h1 1, heap_cell HS13.out.qr.h1 2⟩, heap_cell HS13.out.qr.h2 0, heap_cell HS13.out.qr.h2 1, heap_cell HS13.out.qr.h2 2⟩ : (wc.cell? ⟨w.heap.size + 2, 0, none⟩ = some (.int .i64 0) ∧ wc.cell? ⟨w.heap.size + 2, 1, none⟩ = some (.bool false) ∧ wc.cell? ⟨w.heap.size + 2, 2, none⟩ = some (.slice none 0 0)) ∧ wc.cell? ⟨w.heap.size + 3, 0, none⟩ = some (.int .i64 0) ∧ wc.cell? ⟨w.heap.size + 3, 1, none⟩ = some (.bool false) ∧ wc.cell? ⟨w.heap.size + 3, 2, none⟩ = some (.slice none 0 0))
              have hfa := HS13.out.fa
              have hne := HS13.out.ne
              have n1 : G ≠ w.heap.size + 2 := by omega
              have n2 : G ≠ w.heap.size + 3 := by omega
              have n3 : H ≠ w.heap.size + 2 := by omega
              have n4 : H ≠ w.heap.size + 3 := by omega
              have n5 : w.heap.size + 2 ≠ w.heap.size + 3 := by omega
              go_region
              all_goals go_wp2
              have HSd := Lib.hid HS13.out.drew
              have HQd := Lib.hid (IV.drew HQ13.out)
              have HRd := Lib.hid (IV.drew HR13.out)
              simp only [← World.setCell_drew]
              exact end_two Tryz.results149 rfl rfl rfl HSd.out.qr.h1 HSd.out.qr.h2 (by omega) HQd.out HRd.out HE.out.1 HE.out.2 HSd.out.qr.bel (by omega) (by omega)
    · have hanb : decide (za < 0) = false := decide_eq_false han
      have HE := Lib.hid (D1.out (.inl (by omega)))
      clear han
      obtain ⟨⟨y0, y1, y2⟩, ⟨q0, q1, q2⟩, ⟨r0, r1, r2⟩, fq, fr⟩ := HS.out.cells
      go_wp2_with fail
      generalize ((w5.alloc (.cells #[.int .i64 s6, .bool b6, .slice a6 n6 c6] 147)).alloc (.cells #[.int .i64 s7, .bool b7, .slice a7 n7 c7] 147)) = w6 at *
      generalize w5.heap.size + 1 = H at *
      generalize w5.heap.size = G at *
      obtain ⟨f0, f1⟩ := (⟨fun i => heap_fz HS.out.qr.h1 i, fun i => heap_fz HS.out.qr.h2 i⟩ : (∀ i, w6.frozen? ⟨w.heap.size + 2, i, none⟩ = false) ∧ (∀ i, w6.frozen? ⟨w.heap.size + 3, i, none⟩ = false))
      obtain ⟨⟨z0, z1, z2⟩, z3, z4, z5⟩ := (⟨⟨heap_cell HS.out.qr.h1 0, heap_cell HS.out.qr.h1 1, heap_cell HS.out.qr.h1 2⟩, heap_cell HS.out.qr.h2 0, heap_cell HS.out.qr.h2 1, heap_cell HS.out.qr.h2 2⟩ : (w6.cell? ⟨w.heap.size + 2, 0, none⟩ = some (.int .i64 0) ∧ w6.cell? ⟨w.heap.size + 2, 1, none⟩ = some (.bool false) ∧ w6.cell? ⟨w.heap.size + 2, 2, none⟩ = some (.slice none 0 0)) ∧ w6.cell? ⟨w.heap.size + 3, 0, none⟩ = some (.int .i64 0) ∧ w6.cell? ⟨w.heap.size + 3, 1, none⟩ = some (.bool false) ∧ w6.cell? ⟨w.heap.size + 3, 2, none⟩ = some (.slice none 0 0))
      have hfa := HS.out.fa
      have hne := HS.out.ne
      have n1 : G ≠ w.heap.size + 2 := by omega
      have n2 : G ≠ w.heap.size + 3 := by omega
      have n3 : H ≠ w.heap.size + 2 := by omega
      have n4 : H ≠ w.heap.size + 3 := by omega
      have n5 : w.heap.size + 2 ≠ w.heap.size + 3 := by omega
      go_region
      all_goals go_wp2
      have HSd := Lib.hid HS.out.drew
      have HQd := Lib.hid (IV.drew HQ.out)
      have HRd := Lib.hid (IV.drew HR.out)
      simp only [← World.setCell_drew]
      exact end_two Tryz.results149 rfl rfl rfl HSd.out.qr.h1 HSd.out.qr.h2 (by omega) HQd.out HRd.out HE.out.1 HE.out.2 HSd.out.qr.bel (by omega) (by omega)
end
end Go.Proofs.YthefknoicelhaaaGreatDoor

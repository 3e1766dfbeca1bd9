/- Int.Mul of package exact. -/
import Derived.Test.YthefknoicelhaaaGreatDoorFNC
import Derived.Test.YthefknoicelhaaaGreatDoorFShelf
import Derived.Deep.RegionHeld3
import Derived.Deep.DeepCutAuto
import Derived.Deep.LoopGhost
import Derived.Deep.AppendLies
namespace Go.Proofs.YthefknoicelhaaaGreatDoor
open Go.RowKit Nmx

theorem sgn_mul (a b : Bool) (m n : Nat) : sgn (a != b) (m * n) = sgn a m * sgn b n := by
  cases a <;> cases b <;> simp [sgn, Int.neg_mul, Int.mul_neg]
end Go.Proofs.YthefknoicelhaaaGreatDoor
/- Int.Cmp of package exact; QuoRem of small integers. -/
namespace Go.Proofs.YthefknoicelhaaaGreatDoor
open Go.RowKit Nmx

def cmpI (a b : Int) : Int := if a < b then -1 else if b < a then 1 else 0
section
set_option maxRecDepth 100000
set_option maxHeartbeats 4000000
theorem below2 (w : World) (o o' : Obj) : Below w.heap.size w ((w.alloc o).alloc o') := ((Below.refl w.heap.size w).alloc (Nat.le_refl _) _).alloc (by simp) _














end
end Go.Proofs.YthefknoicelhaaaGreatDoor
namespace Go.Proofs.YthefknoicelhaaaGreatDoor
open Go.RowKit Nmx

def QRPost (za zb : Int) (w : World) (e : Ending) (w' : World) : Prop := ∃ v1 v2, e = .returned (.tuple #[v1, v2]) ∧ IV w' v1 (za / zb) ∧ IV w' v2 (za % zb) ∧ Below w.heap.size w w'
theorem tdiv_cases {a b : Int} (hb : b ≠ 0) : (0 ≤ a.tmod b → a / b = a.tdiv b ∧ a % b = a.tmod b) ∧ (a.tmod b < 0 → 0 < b → a / b = a.tdiv b - 1 ∧ a % b = a.tmod b + b) ∧ (a.tmod b < 0 → b < 0 → a / b = a.tdiv b + 1 ∧ a % b = a.tmod b - b) := by
  have h1 := Int.tdiv_mul_add_tmod a b
  have h2 := Int.emod_nonneg a hb
  have h3 := Int.emod_lt_of_pos
  have key : ∀ q r : Int, q * b + r = a → 0 ≤ r → r < b.natAbs → a / b = q ∧ a % b = r := by
    intro q r e hr hl
    have e2 : a = r + b * q := by rw [← e, Int.mul_comm]; omega
    have e3 : r / b = 0 ∧ r % b = r := by
      rcases Int.lt_or_gt_of_ne hb with hn | hp
      · have : r / (-b) = 0 := Int.ediv_eq_zero_of_lt hr (by omega)
        have h4 : r % (-b) = r := Int.emod_eq_of_lt hr (by omega)
        rw [Int.ediv_neg] at this
        rw [Int.emod_neg] at h4
        exact ⟨by omega, h4⟩
      · exact ⟨Int.ediv_eq_zero_of_lt hr (by omega), Int.emod_eq_of_lt hr (by omega)⟩
    rw [e2]
    refine ⟨?_, ?_⟩
    · rw [Int.add_mul_ediv_left _ _ hb, e3.1, Int.zero_add]
    · rw [Int.add_mul_emod_self_left, e3.2]
  have hlt : (a.tmod b).natAbs < b.natAbs := by rw [Int.natAbs_tmod]; exact Nat.mod_lt _ (by omega)
  refine ⟨fun h => key _ _ h1 h (by omega), fun h hp => key _ _ ?_ (by omega) (by omega), fun h hn => key _ _ ?_ (by omega) (by omega)⟩
  · rw [Int.sub_mul]; omega
  · rw [Int.add_mul]; omega
theorem ediv_small {a b : Int} (ha : Small a) : Small (a / b) := by
  have h := Int.natAbs_ediv_le_natAbs a b
  unfold Small at *
  omega
theorem emod_small {a b : Int} (hb0 : Small b) (hb : b ≠ 0) : Small (a % b) := by
  have h1 := Int.emod_nonneg a hb
  have h2 : a % b < b.natAbs := Int.emod_lt a hb
  unfold Small at *
  omega

section
set_option maxRecDepth 100000
set_option maxHeartbeats 4000000
theorem new_fourth (w : World) (o o' o2 o3 : Obj) : ((((w.alloc o).alloc o').alloc o2).alloc o3).heap[w.heap.size + 3]? = some o3 ∧ ((((w.alloc o).alloc o').alloc o2).alloc o3).heap[w.heap.size + 2]? = some o2 := by
  refine ⟨?_, ?_⟩
  · have := heap_alloc_new (((w.alloc o).alloc o').alloc o2) o3
    simpa using this
  · rw [Below.heap_alloc _ _ _ (by simp)]
    exact new_third w o o' o2
theorem below4 (w : World) (o o' o2 o3 : Obj) : Below w.heap.size w ((((w.alloc o).alloc o').alloc o2).alloc o3) := (below3 w o o' o2).alloc (by simp; omega) _
theorem end_two {fn : Func} {t t' : Tmp} {a : Act} {w w2 : World} {R R' : Nat} {za zb z z' s s' : Int} {b b' : Bool} {ao ao' : Option Addr} {n c n' c' : Nat} {x0 x1 x2 y0 y1 y2 : Value} (hres : fn.results = #[.cell t 147, .cell t' 147]) (hd : a.defers = [])
    (ht : a.tmps.getD t undef = .pointer (some ⟨R, 0, none⟩)) (ht' : a.tmps.getD t' undef = .pointer (some ⟨R', 0, none⟩))
    (hR : w2.heap[R]? = some (.cells #[x0, x1, x2] 147 (0, 0))) (hR' : w2.heap[R']? = some (.cells #[y0, y1, y2] 147 (0, 0))) (hne : R ≠ R')
    (hv : IV w2 (.agg #[.int .i64 s, .bool b, .slice ao n c]) z) (hv' : IV w2 (.agg #[.int .i64 s', .bool b', .slice ao' n' c']) z') (hz : za / zb = z) (hz' : za % zb = z') (hb : Below w.heap.size w w2) (hRB : w.heap.size ≤ R) (hRB' : w.heap.size ≤ R') :
    bodyPost Tryz.prog fn (QRPost za zb w) .ret a ((((((w2.setCell ⟨R, 0, none⟩ (.int .i64 s)).setCell ⟨R, 1, none⟩ (.bool b)).setCell ⟨R, 2, none⟩ (.slice ao n c)).setCell ⟨R', 0, none⟩ (.int .i64 s')).setCell ⟨R', 1, none⟩ (.bool b')).setCell ⟨R', 2, none⟩ (.slice ao' n' c')) := by
  subst hz hz'
  have h3 := heap_set (heap_set (heap_set hR 0 (.int .i64 s)) 1 (.bool b)) 2 (.slice ao n c)
  have hiv := hv.set3 hR (.int .i64 s) (.bool b) (.slice ao n c)
  have hiv' := hv'.set3 hR (.int .i64 s) (.bool b) (.slice ao n c)
  have hR2 : (set3 w2 R (.int .i64 s) (.bool b) (.slice ao n c)).heap[R']? = some (.cells #[y0, y1, y2] 147 (0, 0)) := by
    unfold set3
    rw [Below.heap_setCell _ _ _ _ (Ne.symm hne), Below.heap_setCell _ _ _ _ (Ne.symm hne), Below.heap_setCell _ _ _ _ (Ne.symm hne)]
    exact hR'
  have hbl := ((hb.setCell (show w.heap.size ≤ (⟨R, 0, none⟩ : Addr).block from hRB) (.int .i64 s)).setCell (show w.heap.size ≤ (⟨R, 1, none⟩ : Addr).block from hRB) (.bool b)).setCell (show w.heap.size ≤ (⟨R, 2, none⟩ : Addr).block from hRB) (.slice ao n c)
  unfold set3 at hiv hiv' hR2
  generalize ((w2.setCell ⟨R, 0, none⟩ (.int .i64 s)).setCell ⟨R, 1, none⟩ (.bool b)).setCell ⟨R, 2, none⟩ (.slice ao n c) = w3 at *
  have g3 := heap_set (heap_set (heap_set hR2 0 (.int .i64 s')) 1 (.bool b')) 2 (.slice ao' n' c')
  have giv := hiv.set3 hR2 (.int .i64 s') (.bool b') (.slice ao' n' c')
  have giv' := hiv'.set3 hR2 (.int .i64 s') (.bool b') (.slice ao' n' c')
  have h4 : (set3 w3 R' (.int .i64 s') (.bool b') (.slice ao' n' c')).heap[R]? = w3.heap[R]? := by
    unfold set3
    rw [Below.heap_setCell _ _ _ _ hne, Below.heap_setCell _ _ _ _ hne, Below.heap_setCell _ _ _ _ hne]
  rw [h3] at h4
  have gbl := ((hbl.setCell (show w.heap.size ≤ (⟨R', 0, none⟩ : Addr).block from hRB') (.int .i64 s')).setCell (show w.heap.size ≤ (⟨R', 1, none⟩ : Addr).block from hRB') (.bool b')).setCell (show w.heap.size ≤ (⟨R', 2, none⟩ : Addr).block from hRB') (.slice ao' n' c')
  unfold set3 at giv giv' h4
  generalize ((w3.setCell ⟨R', 0, none⟩ (.int .i64 s')).setCell ⟨R', 1, none⟩ (.bool b')).setCell ⟨R', 2, none⟩ (.slice ao' n' c') = w4 at *
  have k0 := heap_cell h4 0
  have k1 := heap_cell h4 1
  have k2 := heap_cell h4 2
  have l0 := heap_cell g3 0
  have l1 := heap_cell g3 1
  have l2 := heap_cell g3 2
  simp at k0 k1 k2 l0 l1 l2
  refine bodyPost_ret (v := .tuple #[.agg #[.int .i64 s, .bool b, .slice ao n c], .agg #[.int .i64 s', .bool b', .slice ao' n' c']]) ?_ hd ⟨_, _, rfl, giv, giv', gbl⟩
  have ht1 : a.tmps[t]?.getD undef = .pointer (some ⟨R, 0, none⟩) := by simpa using ht
  have ht2 : a.tmps[t']?.getD undef = .pointer (some ⟨R', 0, none⟩) := by simpa using ht'
  simp [results, hres, go_sem, ht1, ht2, k0, k1, k2, l0, l1, l2]
theorem quoRem_ss {za zb : Int} (w : World) (hza : Small za) (hzb : Small zb) (h0 : zb ≠ 0) :
    Calls Tryz.prog 149 #[.agg #[.int .i64 za, .bool false, .slice none 0 0], .agg #[.int .i64 zb, .bool false, .slice none 0 0]] w (QRPost za zb w) := by
  have kq0 := mag_eql0
  have hds := ediv_small (b := zb) hza
  have hms := emod_small (a := za) hzb h0
  obtain ⟨t1, t2, t3⟩ := tdiv_cases (a := za) h0
  have T1 := Lib.hid t1
  have T2 := Lib.hid t2
  have T3 := Lib.hid t3
  have h0b : (zb == 0) = false := by simpa using h0
  have hqa : (za.tdiv zb).natAbs ≤ za.natAbs := by rw [Int.natAbs_tdiv]; exact Nat.div_le_self _ _
  have hra : (za.tmod zb).natAbs < zb.natAbs := by rw [Int.natAbs_tmod]; exact Nat.mod_lt _ (by omega)
  have DS := Lib.hid hds
  have MS := Lib.hid hms
  obtain ⟨q1, q2⟩ := hza
  obtain ⟨q3, q4⟩ := hzb
  clear t1 t2 t3 hds hms
  obtain ⟨Q, hQ⟩ : ∃ Q, za.tdiv zb = Q := ⟨_, rfl⟩
  obtain ⟨R, hR⟩ : ∃ R, za.tmod zb = R := ⟨_, rfl⟩
  have b1 : -9223372036854775807 ≤ Q := by omega
  have b2 : Q ≤ 9223372036854775807 := by omega
  have b3 : -9223372036854775807 ≤ R := by omega
  have b4 : R ≤ 9223372036854775807 := by omega
  have b5 := hra
  rw [hR] at b5
  clear hqa hra
  by_cases hr : R < 0
  · by_cases hp : 0 < zb
    · have HE : Hid (za / zb = Q - 1 ∧ za % zb = R + zb) := Lib.hid (by have := T2.out (by rw [hR]; exact hr) hp; rw [hQ, hR] at this; exact this)
      have HS1 : Hid (Small (Q - 1)) := Lib.hid (by have := DS.out; rw [HE.out.1] at this; exact this)
      have HS2 : Hid (Small (R + zb)) := Lib.hid (by have := MS.out; rw [HE.out.2] at this; exact this)
      obtain ⟨v1, v2⟩ := HS1.out
      obtain ⟨v3, v4⟩ := HS2.out
      go_enter Tryz.func149, Tryz.ntmps149
      go_wp2
      go_quiet (fail)
      go_wp2
      go_quiet (fail)
      go_wp2
      exact end_two Tryz.results149 rfl rfl rfl (new_fourth w _ _ _ _).2 (new_fourth w _ _ _ _).1 (by omega) (small_iv _ HS1.out) (small_iv _ HS2.out) HE.out.1 HE.out.2 (below_drewN (below4 w _ _ _ _) _) (by omega) (by omega)
    · have hp2 : zb < 0 := by omega
      have HE : Hid (za / zb = Q + 1 ∧ za % zb = R - zb) := Lib.hid (by have := T3.out (by rw [hR]; exact hr) hp2; rw [hQ, hR] at this; exact this)
      have HS1 : Hid (Small (Q + 1)) := Lib.hid (by have := DS.out; rw [HE.out.1] at this; exact this)
      have HS2 : Hid (Small (R - zb)) := Lib.hid (by have := MS.out; rw [HE.out.2] at this; exact this)
      obtain ⟨v1, v2⟩ := HS1.out
      obtain ⟨v3, v4⟩ := HS2.out
      go_enter Tryz.func149, Tryz.ntmps149
      go_wp2
      go_quiet (fail)
      go_wp2
      go_quiet (fail)
      go_wp2
      exact end_two Tryz.results149 rfl rfl rfl (new_fourth w _ _ _ _).2 (new_fourth w _ _ _ _).1 (by omega) (small_iv _ HS1.out) (small_iv _ HS2.out) HE.out.1 HE.out.2 (below_drewN (below4 w _ _ _ _) _) (by omega) (by omega)
  · have HE : Hid (za / zb = Q ∧ za % zb = R) := Lib.hid (by have := T1.out (by rw [hR]; omega); rw [hQ, hR] at this; exact this)
    have HS1 : Hid (Small (Q)) := Lib.hid (by have := DS.out; rw [HE.out.1] at this; exact this)
    have HS2 : Hid (Small (R)) := Lib.hid (by have := MS.out; rw [HE.out.2] at this; exact this)
    go_enter Tryz.func149, Tryz.ntmps149
    go_wp2
    go_quiet (fail)
    go_wp2
    exact end_two Tryz.results149 rfl rfl rfl (new_fourth w _ _ _ _).2 (new_fourth w _ _ _ _).1 (by omega) (small_iv _ HS1.out) (small_iv _ HS2.out) HE.out.1 HE.out.2 (below_drewN (below4 w _ _ _ _) _) (by omega) (by omega)
theorem iv_small {w : World} {v : Value} {z : Int} (h : IV w v z) (hs : Small z) : v = smallV z := by
  rcases h with ⟨h, _⟩ | ⟨b, g, off, cap, l, _, _, h3, rfl⟩
  · exact h
  · exact absurd hs (big_sgn h3).1
end
end Go.Proofs.YthefknoicelhaaaGreatDoor
namespace Go.Proofs.YthefknoicelhaaaGreatDoor
open Go.RowKit Nmx

/-- two integers that lie in blocks g and h -/
def Two (w : World) (g h : Nat) (a0 a1 a2 b0 b1 b2 : Value) : Prop :=
  w.cell? ⟨g, 0, none⟩ = some a0 ∧ w.cell? ⟨g, 1, none⟩ = some a1 ∧ w.cell? ⟨g, 2, none⟩ = some a2 ∧ w.cell? ⟨h, 0, none⟩ = some b0 ∧ w.cell? ⟨h, 1, none⟩ = some b1 ∧ w.cell? ⟨h, 2, none⟩ = some b2
theorem Two.far {W w1 : World} {g h : Nat} {a0 a1 a2 b0 b1 b2 : Value} (hb : Below W.heap.size W w1) (hg : g < W.heap.size) (hh : h < W.heap.size) (k : Two W g h a0 a1 a2 b0 b1 b2) : Two w1 g h a0 a1 a2 b0 b1 b2 := by
  obtain ⟨k0, k1, k2, k3, k4, k5⟩ := k
  have f : ∀ b o, b < W.heap.size → w1.cell? ⟨b, o, none⟩ = W.cell? ⟨b, o, none⟩ := (bcell hb).1
  exact ⟨(f _ _ hg).trans k0, (f _ _ hg).trans k1, (f _ _ hg).trans k2, (f _ _ hh).trans k3, (f _ _ hh).trans k4, (f _ _ hh).trans k5⟩
theorem cell_set3 {w : World} {R g : Nat} (h : g ≠ R) (x y z : Value) (i : Nat) : (((w.setCell ⟨R, 0, none⟩ x).setCell ⟨R, 1, none⟩ y).setCell ⟨R, 2, none⟩ z).cell? ⟨g, i, none⟩ = w.cell? ⟨g, i, none⟩ := by
  apply World.cell?_of_block
  show (((w.setCell ⟨R, 0, none⟩ x).setCell ⟨R, 1, none⟩ y).setCell ⟨R, 2, none⟩ z).heap[g]? = w.heap[g]?
  rw [Below.heap_setCell _ _ _ _ h, Below.heap_setCell _ _ _ _ h, Below.heap_setCell _ _ _ _ h]
theorem Two.set {w : World} {g h R : Nat} {a0 a1 a2 b0 b1 b2 : Value} (k : Two w g h a0 a1 a2 b0 b1 b2) (hg : g ≠ R) (hh : h ≠ R) (x y z : Value) : Two (((w.setCell ⟨R, 0, none⟩ x).setCell ⟨R, 1, none⟩ y).setCell ⟨R, 2, none⟩ z) g h a0 a1 a2 b0 b1 b2 := by
  obtain ⟨k0, k1, k2, k3, k4, k5⟩ := k
  exact ⟨(cell_set3 hg _ _ _ 0).trans k0, (cell_set3 hg _ _ _ 1).trans k1, (cell_set3 hg _ _ _ 2).trans k2, (cell_set3 hh _ _ _ 0).trans k3, (cell_set3 hh _ _ _ 1).trans k4, (cell_set3 hh _ _ _ 2).trans k5⟩
theorem Res.cells {w : World} {R : Nat} (h : w.heap[R]? = some (.cells #[.int .i64 0, .bool false, .slice none 0 0] 147 (0, 0))) : w.cell? ⟨R, 0, none⟩ = some (.int .i64 0) ∧ w.cell? ⟨R, 1, none⟩ = some (.bool false) ∧ w.cell? ⟨R, 2, none⟩ = some (.slice none 0 0) ∧ w.frozen? ⟨R, 0, none⟩ = false ∧ w.frozen? ⟨R, 1, none⟩ = false ∧ w.frozen? ⟨R, 2, none⟩ = false :=
  ⟨heap_cell h 0, heap_cell h 1, heap_cell h 2, heap_fz h 0, heap_fz h 1, heap_fz h 2⟩
theorem fit_neg {z : Int} (h : Fit z) : Fit (-z) := by unfold Fit at *; rw [Int.natAbs_neg]; exact h

section
set_option maxRecDepth 100000
set_option maxHeartbeats 4000000
theorem sub_any (x y : Value) (za zb : Int) (w : World) (ha : IV w x za) (hb : IV w y zb) (fa : Fit za) (fb : Fit zb) : Calls Tryz.prog 160 #[x, y] w (GetsI (za - zb) w) := by
  have hng := fun (W' : World) (hB : Below w.heap.size w W') => neg_any y zb W' (hb.far hB)
  have hadd := fun (W' : World) (v : Value) (hB : Below w.heap.size w W') (hv : IV W' v (-zb)) => add_any x v za (-zb) W' (ha.far hB) hv fa (fit_neg fb)
  obtain ⟨s1, b1, a1, n1, c1, rfl⟩ := iv_form ha
  obtain ⟨s2, b2, a2, n2, c2, rfl⟩ := iv_form hb
  clear ha hb
  go_enter Tryz.func160, Tryz.ntmps160
  go_wp2
  go_region_held3 (fun w' => w'.cell? ⟨w.heap.size, 0, none⟩ = some (.int .i64 s1) ∧ w'.cell? ⟨w.heap.size, 1, none⟩ = some (.bool b1) ∧ w'.cell? ⟨w.heap.size, 2, none⟩ = some (.slice a1 n1 c1) ∧ w'.cell? ⟨w.heap.size + 1, 0, none⟩ = some (.int .i64 s2) ∧ w'.cell? ⟨w.heap.size + 1, 1, none⟩ = some (.bool b2) ∧ w'.cell? ⟨w.heap.size + 1, 2, none⟩ = some (.slice a2 n2 c2))
    (first | exact K1 | exact K2 | exact Two.set (h := w.heap.size + 1) K2 (Nat.ne_of_lt (by omega)) (Nat.ne_of_lt (by omega)) _ _ _ | go_keep)
    (first
      | (go_at_call 155
         refine (hng _ (below_drewN (below3 w _ _ _) _)).mono ?_
         rintro e w1 ⟨v1, rfl, hv1, hb1⟩
         have K1 : Two w1 w.heap.size (w.heap.size + 1) (.int .i64 s1) (.bool b1) (.slice a1 n1 c1) (.int .i64 s2) (.bool b2) (.slice a2 n2 c2) := Two.far hb1 (by simp; omega) (by simp) (by unfold Two; assumption)
         have hz1 : w.heap.size + 2 < w1.heap.size := by have := hb1.size; simp at this; omega
         have HR1 := Lib.hid ((hb1.block (w.heap.size + 2) (by simp)).trans (new_third w _ _ _))
         have HB1 := Lib.hid ((below_drewN (below3 w _ _ _) _).trans (hb1.mono (by simp; omega)))
         have HV1 := Lib.hid hv1
         obtain ⟨s3, b3, a3, n3, c3, rfl⟩ := iv_form hv1)
      | (go_at_call 158
         refine (hadd _ _ HB1.out HV1.out).mono ?_
         rintro e w2 ⟨v2, rfl, hv2, hb2⟩
         have K2 : Two w2 w.heap.size (w.heap.size + 1) (.int .i64 s1) (.bool b1) (.slice a1 n1 c1) (.int .i64 s2) (.bool b2) (.slice a2 n2 c2) := Two.far hb2 (by omega) (by omega) K1
         have HR2 := Lib.hid ((hb2.block (w.heap.size + 2) hz1).trans HR1.out)
         have HB2 := Lib.hid (HB1.out.trans (hb2.mono HB1.out.size))
         have HV2 := Lib.hid hv2
         obtain ⟨s4, b4, a4, n4, c4, rfl⟩ := iv_form hv2
         obtain ⟨r0, r1, r2, r3, r4, r5⟩ := Res.cells (R := w.heap.size + 1 + 1) HR2.out))
  go_wp2
  rw [Int.sub_eq_add_neg]
  exact end_int Tryz.results160 rfl rfl HR2.out HV2.out HB2.out (by omega)
end
end Go.Proofs.YthefknoicelhaaaGreatDoor
/- Gcd of small integers. -/
namespace Go.Proofs.YthefknoicelhaaaGreatDoor
open Go.RowKit Nmx

theorem Cells.of {w : World} {R : Nat} {t : TypeId} {x y z : Value} (h : w.heap[R]? = some (.cells #[x, y, z] t (0, 0))) : w.cell? ⟨R, 0, none⟩ = some x ∧ w.cell? ⟨R, 1, none⟩ = some y ∧ w.cell? ⟨R, 2, none⟩ = some z ∧ w.frozen? ⟨R, 0, none⟩ = false ∧ w.frozen? ⟨R, 1, none⟩ = false ∧ w.frozen? ⟨R, 2, none⟩ = false :=
  ⟨heap_cell h 0, heap_cell h 1, heap_cell h 2, heap_fz h 0, heap_fz h 1, heap_fz h 2⟩
theorem new3 (w : World) (o o' o2 : Obj) : (((w.alloc o).alloc o').alloc o2).heap[w.heap.size]? = some o ∧ (((w.alloc o).alloc o').alloc o2).heap[w.heap.size + 1]? = some o' ∧ (((w.alloc o).alloc o').alloc o2).heap[w.heap.size + 2]? = some o2 := by
  refine ⟨?_, ?_, new_third w o o' o2⟩
  · rw [Below.heap_alloc _ _ _ (by simp; omega), Below.heap_alloc _ _ _ (by simp)]
    exact heap_alloc_new w o
  · rw [Below.heap_alloc _ _ _ (by simp)]
    exact new_second w o o'
theorem set3_heap {w : World} {R : Nat} {x y z a b c : Value} {t : TypeId} (h : w.heap[R]? = some (.cells #[a, b, c] t (0, 0))) : (((w.setCell ⟨R, 0, none⟩ x).setCell ⟨R, 1, none⟩ y).setCell ⟨R, 2, none⟩ z).heap[R]? = some (.cells #[x, y, z] t (0, 0)) := by
  have := heap_set (heap_set (heap_set h 0 x) 1 y) 2 z
  simpa using this
theorem set3_other {w : World} {R g : Nat} (x y z : Value) (h : g ≠ R) : (((w.setCell ⟨R, 0, none⟩ x).setCell ⟨R, 1, none⟩ y).setCell ⟨R, 2, none⟩ z).heap[g]? = w.heap[g]? := by
  rw [Below.heap_setCell _ _ _ _ h, Below.heap_setCell _ _ _ _ h, Below.heap_setCell _ _ _ _ h]
end Go.Proofs.YthefknoicelhaaaGreatDoor
namespace Go.Proofs.YthefknoicelhaaaGreatDoor
open Go.RowKit Nmx

/-- the denominator as package exact keeps it -/
def denI (q : Rat) : Int := if q.den = 1 then 0 else q.den
/-- the value reads as the rational number q -/
def RV (w : World) (v : Value) (q : Rat) : Prop := ∃ s1 b1 a1 n1 c1 s2 b2 a2 n2 c2, v = .agg #[.int .i64 s1, .bool b1, .slice a1 n1 c1, .int .i64 s2, .bool b2, .slice a2 n2 c2] ∧ IV w (.agg #[.int .i64 s1, .bool b1, .slice a1 n1 c1]) q.num ∧ IV w (.agg #[.int .i64 s2, .bool b2, .slice a2 n2 c2]) (denI q)
theorem RV.far {w w' : World} {v : Value} {q : Rat} (h : RV w v q) (hb : Below w.heap.size w w') : RV w' v q :=
  let ⟨s1, b1, a1, n1, c1, s2, b2, a2, n2, c2, e, h1, h2⟩ := h
  ⟨s1, b1, a1, n1, c1, s2, b2, a2, n2, c2, e, h1.far hb, h2.far hb⟩
def set6 (w : World) (R : Nat) (x0 x1 x2 x3 x4 x5 : Value) : World := (((((w.setCell ⟨R, 0, none⟩ x0).setCell ⟨R, 1, none⟩ x1).setCell ⟨R, 2, none⟩ x2).setCell ⟨R, 3, none⟩ x3).setCell ⟨R, 4, none⟩ x4).setCell ⟨R, 5, none⟩ x5
theorem set6_heap {w : World} {R : Nat} {y0 y1 y2 y3 y4 y5 : Value} {t : TypeId} (h : w.heap[R]? = some (.cells #[y0, y1, y2, y3, y4, y5] t (0, 0))) (x0 x1 x2 x3 x4 x5 : Value) : (set6 w R x0 x1 x2 x3 x4 x5).heap[R]? = some (.cells #[x0, x1, x2, x3, x4, x5] t (0, 0)) := by
  have := heap_set (heap_set (heap_set (heap_set (heap_set (heap_set h 0 x0) 1 x1) 2 x2) 3 x3) 4 x4) 5 x5
  simpa [set6] using this
theorem set6_other {w : World} {R g : Nat} (h : g ≠ R) (x0 x1 x2 x3 x4 x5 : Value) : (set6 w R x0 x1 x2 x3 x4 x5).heap[g]? = w.heap[g]? := by
  unfold set6
  rw [Below.heap_setCell _ _ _ _ h, Below.heap_setCell _ _ _ _ h, Below.heap_setCell _ _ _ _ h, Below.heap_setCell _ _ _ _ h, Below.heap_setCell _ _ _ _ h, Below.heap_setCell _ _ _ _ h]
theorem set6_below {B : Nat} {w0 w : World} {R : Nat} (h : Below B w0 w) (hR : B ≤ R) (x0 x1 x2 x3 x4 x5 : Value) : Below B w0 (set6 w R x0 x1 x2 x3 x4 x5) :=
  (((((h.setCell (show B ≤ (⟨R, 0, none⟩ : Addr).block from hR) x0).setCell (show B ≤ (⟨R, 1, none⟩ : Addr).block from hR) x1).setCell (show B ≤ (⟨R, 2, none⟩ : Addr).block from hR) x2).setCell (show B ≤ (⟨R, 3, none⟩ : Addr).block from hR) x3).setCell (show B ≤ (⟨R, 4, none⟩ : Addr).block from hR) x4).setCell (show B ≤ (⟨R, 5, none⟩ : Addr).block from hR) x5
theorem WS.heap_same {w w' : World} {ao : Option Addr} {g off cap : Nat} {l : List Nat} (h : WS w ao g off cap l) {R : Nat} {cs : Array Value} {t : TypeId} {fr : Nat × Nat} (hR : w.heap[R]? = some (.cells cs t fr)) (ht : t ≠ 158) (ho : ∀ k, k ≠ R → w'.heap[k]? = w.heap[k]?) : WS w' ao g off cap l :=
  h.same fun hc => ho g (fun e => by
    obtain ⟨cs', fr', hb⟩ := h.blk hc
    rw [e, hR] at hb
    cases hb; exact ht rfl)
theorem IV.heap_same {w w' : World} {v : Value} {z : Int} (h : IV w v z) {R : Nat} {cs : Array Value} {t : TypeId} {fr : Nat × Nat} (hR : w.heap[R]? = some (.cells cs t fr)) (ht : t ≠ 158) (ho : ∀ k, k ≠ R → w'.heap[k]? = w.heap[k]?) : IV w' v z := by
  rcases h with h | ⟨b, g, off, cap, l, h1, h2, h3, h4⟩
  · exact .inl h
  · exact .inr ⟨b, g, off, cap, l, h1, h2.heap_same hR ht ho, h3, h4⟩
end Go.Proofs.YthefknoicelhaaaGreatDoor
namespace Go.Proofs.YthefknoicelhaaaGreatDoor
open Go.RowKit Nmx

theorem decDigits_eq (n : Nat) : Lib.decDigits n = decN n := by
  induction n using Nat.strongRecOn with
  | _ n ih =>
    by_cases h : n < 10
    · rw [decN_small h, Lib.decDigits, dif_pos h]; rfl
    · rw [decN_big h, Lib.decDigits, dif_neg h, ih (n / 10) (by omega)]; rfl
theorem itoa_eq (z : Int) : Lib.itoa z = decI z := by
  unfold Lib.itoa decI
  rw [decDigits_eq, decDigits_eq]
  split
  · rfl
  · rename_i h; rw [show z.toNat = z.natAbs by omega]
theorem parseM_ok (M : Nat) (l : List UInt8) : ∀ acc, l.all isD = true → (acc + 1) * 10 ^ l.length ≤ 1000000000000000000 → (acc + 1) * 10 ^ l.length ≤ M + 1 → Lib.parseUintM M acc l = .ok (acc * 10 ^ l.length + dv l) := by
  induction l with
  | nil => intro acc _ _ _; simp [Lib.parseUintM, dv_nil]
  | cons c r ih =>
    intro acc h h1 h2
    rw [List.all_cons, Bool.and_eq_true] at h
    have hc := isD_iff.1 h.1
    rw [List.length_cons, Nat.pow_succ] at h1 h2
    have hp : 0 < 10 ^ r.length := Nat.pow_pos (by omega)
    have e1 : (acc + 1) * (10 ^ r.length * 10) = (acc * 10 + 10) * 10 ^ r.length := by grind
    rw [e1] at h1 h2
    have e2 : (acc * 10 + (c.toNat - 48) + 1) * 10 ^ r.length ≤ (acc * 10 + 10) * 10 ^ r.length := Nat.mul_le_mul_right _ (by omega)
    have e3 : (acc * 10 + 10) * 1 ≤ (acc * 10 + 10) * 10 ^ r.length := Nat.mul_le_mul_left _ hp
    rw [Lib.parseUintM, if_pos hc, if_neg (by omega), if_neg (by omega), ih _ h.2 (by omega) (by omega), dv_cons, List.length_cons, Nat.pow_succ]
    congr 1
    grind
theorem parseU_ok (B : Nat) (l : List UInt8) (h : l.all isD = true) (h0 : l ≠ []) (h1 : l.length ≤ 18) (h2 : 10 ^ l.length ≤ 2 ^ B) : Lib.parseUintB B l = .ok (dv l) := by
  unfold Lib.parseUintB
  rw [if_neg h0, parseM_ok _ _ _ h]
  · simp
  · have : 10 ^ l.length ≤ 10 ^ 18 := Nat.pow_le_pow_right (by omega) h1
    simpa using this
  · have : 0 < 2 ^ B := Nat.pow_pos (by omega)
    simp; omega
theorem parseI_ok (l : List UInt8) (h : l.all isD = true) (h0 : l ≠ []) (h1 : l.length ≤ 18) : Lib.parseIntB 64 l = .ok (dv l : Int) ∧ dv l < 1000000000000000000 := by
  have hp : 10 ^ l.length ≤ 10 ^ 18 := Nat.pow_le_pow_right (by omega) h1
  have hu := parseU_ok 64 l h h0 h1 (by omega)
  have hl := dv_lt l h
  refine ⟨?_, by omega⟩
  match l, h0 with
  | c :: r, _ =>
    rw [List.all_cons, Bool.and_eq_true] at h
    have hc := isD_iff.1 h.1
    unfold Lib.parseIntB
    simp only
    rw [if_neg (by omega), hu]
    simp only
    rw [if_neg (by omega), if_neg (by omega), if_neg (by omega)]

theorem ownsW_shape {w : World} {b : Nat} {v : Value} {l : List Nat} (h : w.ownsRow b 158 1 v l.length (u32s l)) (hn : 0 < l.length) : ∃ g cap, v = .slice (some ⟨g, 0, none⟩) l.length cap ∧ b ≤ g ∧ l.length ≤ cap := by
  obtain ⟨_, h | ⟨g, cap, cur, hv, hg, _, hc, _⟩⟩ := h
  · omega
  · exact ⟨g, cap, hv, hg, hc⟩
theorem ownsW_len {w : World} {b : Nat} {v : Value} {l : List Nat} (h : w.ownsRow b 158 1 v l.length (u32s l)) : ∃ a c, v = .slice a l.length c := by
  obtain ⟨_, h | ⟨g, cap, cur, hv, _⟩⟩ := h
  · rw [h.2, h.1]; exact ⟨none, 0, rfl⟩
  · exact ⟨_, _, hv⟩
theorem ownsW_set {w : World} {b g cap : Nat} {l : List Nat} (h : w.ownsRow b 158 1 (.slice (some ⟨g, 0, none⟩) l.length cap) l.length (u32s l)) (i x : Nat) :
    (w.setCell ⟨g, i, none⟩ (.int .u32 (x : Int))).ownsRow b 158 1 (.slice (some ⟨g, 0, none⟩) l.length cap) (l.set i x).length (u32s (l.set i x)) := by
  obtain ⟨hx, h | ⟨g', cap', cur, hv, hg, hh, hc, hm, hs, ht⟩⟩ := h
  · cases h.1
  · injection hv with e1 e2 e3
    injection e1 with e1
    injection e1 with e1
    subst e1 e3
    rw [List.length_set]
    refine ⟨by rw [u32s_len, List.length_set]; omega, .inr ⟨g, cap, cur.setIfInBounds i (.int .u32 (x : Int)), rfl, hg, heap_set hh i _, hc, hm, by simpa using hs, ?_⟩⟩
    rw [Array.toList_setIfInBounds, List.take_set, ht]
    simp [u32s, List.map_set]
theorem ownsW_at {w : World} {b g cap : Nat} {l : List Nat} (h : w.ownsRow b 158 1 (.slice (some ⟨g, 0, none⟩) l.length cap) l.length (u32s l)) (i : Nat) (hi : i < l.length) : w.cell? ⟨g, i, none⟩ = some (.int .u32 ((l.getD i 0 : Nat) : Int)) ∧ w.frozen? ⟨g, i, none⟩ = false := by
  refine ⟨by rw [h.cellAt i (by omega), u32s_at l i hi], ?_⟩
  obtain ⟨hx, h | ⟨g', cap', cur, hv, hg, hh, _⟩⟩ := h
  · cases h.1
  · injection hv with e1
    injection e1 with e1
    injection e1 with e1
    subst e1
    exact heap_fz hh i
theorem ownsW_ws {w : World} {b : Nat} {v : Value} {l : List Nat} (h : w.ownsRow b 158 1 v l.length (u32s l)) (hw : Ws l) : WV w v l := by
  have h' := h
  obtain ⟨hx, h | ⟨g, cap, cur, hv, hg, hh, hc, hm, _⟩⟩ := h
  · have hl : l = [] := List.length_eq_zero_iff.1 h.2
    subst hl
    rw [h.1]
    exact WV.nil w
  · subst hv
    exact ⟨_, g, 0, cap, rfl, hc, by unfold maxLen at hm; omega, fun _ => rfl, (fun h => by cases h), fun _ => ⟨_, _, hh⟩, fun i hi => by rw [Nat.zero_add]; exact (ownsW_at h' i hi).1, hw⟩
end Go.Proofs.YthefknoicelhaaaGreatDoor

/- QuoRem of small integers. -/
import Derived.Test.YtgehimcngljmnaaGreatDoorO
namespace Go.Proofs.YtgehimcngljmnaaGreatDoor
open Go.RowKit Nmx

def QRPost (za zb : Int) (w : World) (e : Ending) (w' : World) : Prop := ∃ v1 v2, e = .returned (.tuple #[v1, v2]) ∧ IV w' v1 (za / zb) ∧ IV w' v2 (za % zb) ∧ Below w.heap.size w w'
theorem tdiv_cases {a b : Int} (hb : b ≠ 0) : (0 ≤ a.tmod b → a / b = a.tdiv b ∧ a % b = a.tmod b) ∧ (a.tmod b < 0 → 0 < b → a / b = a.tdiv b - 1 ∧ a % b = a.tmod b + b) ∧ (a.tmod b < 0 → b < 0 → a / b = a.tdiv b + 1 ∧ a % b = a.tmod b - b) := by
  have h1 := Int.tdiv_mul_add_tmod a b
  have h2 := Int.emod_nonneg a hb
  have h3 := Int.emod_lt_of_pos
  have key : ∀ q r : Int, q * b + r = a → 0 ≤ r → r < b.natAbs → a / b = q ∧ a % b = r := by
    intro q r e hr hl
    have e2 : a = r + b * q := by rw [← e, Int.mul_comm]; omega
    have e3 : r / b = 0 ∧ r % b = r := by
      rcases Int.lt_or_gt_of_ne hb with hn | hp
      · have : r / (-b) = 0 := Int.ediv_eq_zero_of_lt hr (by omega)
        have h4 : r % (-b) = r := Int.emod_eq_of_lt hr (by omega)
        rw [Int.ediv_neg] at this
        rw [Int.emod_neg] at h4
        exact ⟨by omega, h4⟩
      · exact ⟨Int.ediv_eq_zero_of_lt hr (by omega), Int.emod_eq_of_lt hr (by omega)⟩
    rw [e2]
    refine ⟨?_, ?_⟩
    · rw [Int.add_mul_ediv_left _ _ hb, e3.1, Int.zero_add]
    · rw [Int.add_mul_emod_self_left, e3.2]
  have hlt : (a.tmod b).natAbs < b.natAbs := by rw [Int.natAbs_tmod]; exact Nat.mod_lt _ (by omega)
  refine ⟨fun h => key _ _ h1 h (by omega), fun h hp => key _ _ ?_ (by omega) (by omega), fun h hn => key _ _ ?_ (by omega) (by omega)⟩
  · rw [Int.sub_mul]; omega
  · rw [Int.add_mul]; omega
theorem ediv_small {a b : Int} (ha : Small a) : Small (a / b) := by
  have h := Int.natAbs_ediv_le_natAbs a b
  unfold Small at *
  omega
theorem emod_small {a b : Int} (hb0 : Small b) (hb : b ≠ 0) : Small (a % b) := by
  have h1 := Int.emod_nonneg a hb
  have h2 : a % b < b.natAbs := Int.emod_lt a hb
  unfold Small at *
  omega

section
set_option maxRecDepth 100000
set_option maxHeartbeats 4000000
theorem new_fourth (w : World) (o o' o2 o3 : Obj) : ((((w.alloc o).alloc o').alloc o2).alloc o3).heap[w.heap.size + 3]? = some o3 ∧ ((((w.alloc o).alloc o').alloc o2).alloc o3).heap[w.heap.size + 2]? = some o2 := by
  refine ⟨?_, ?_⟩
  · have := heap_alloc_new (((w.alloc o).alloc o').alloc o2) o3
    simpa using this
  · rw [Below.heap_alloc _ _ _ (by simp)]
    exact new_third w o o' o2
theorem below4 (w : World) (o o' o2 o3 : Obj) : Below w.heap.size w ((((w.alloc o).alloc o').alloc o2).alloc o3) := (below3 w o o' o2).alloc (by simp; omega) _
theorem end_two {fn : Func} {t t' : Tmp} {a : Act} {w w2 : World} {R R' : Nat} {za zb z z' s s' : Int} {b b' : Bool} {ao ao' : Option Addr} {n c n' c' : Nat} {x0 x1 x2 y0 y1 y2 : Value} (hres : fn.results = #[.cell t 58, .cell t' 58]) (hd : a.defers = [])
    (ht : a.tmps.getD t undef = .pointer (some ⟨R, 0, none⟩)) (ht' : a.tmps.getD t' undef = .pointer (some ⟨R', 0, none⟩))
    (hR : w2.heap[R]? = some (.cells #[x0, x1, x2] 58 (0, 0))) (hR' : w2.heap[R']? = some (.cells #[y0, y1, y2] 58 (0, 0))) (hne : R ≠ R')
    (hv : IV w2 (.agg #[.int .i64 s, .bool b, .slice ao n c]) z) (hv' : IV w2 (.agg #[.int .i64 s', .bool b', .slice ao' n' c']) z') (hz : za / zb = z) (hz' : za % zb = z') (hb : Below w.heap.size w w2) (hRB : w.heap.size ≤ R) (hRB' : w.heap.size ≤ R') :
    bodyPost Tryz.prog fn (QRPost za zb w) .ret a ((((((w2.setCell ⟨R, 0, none⟩ (.int .i64 s)).setCell ⟨R, 1, none⟩ (.bool b)).setCell ⟨R, 2, none⟩ (.slice ao n c)).setCell ⟨R', 0, none⟩ (.int .i64 s')).setCell ⟨R', 1, none⟩ (.bool b')).setCell ⟨R', 2, none⟩ (.slice ao' n' c')) := by
  subst hz hz'
  have h3 := heap_set (heap_set (heap_set hR 0 (.int .i64 s)) 1 (.bool b)) 2 (.slice ao n c)
  have hiv := hv.set3 hR (.int .i64 s) (.bool b) (.slice ao n c)
  have hiv' := hv'.set3 hR (.int .i64 s) (.bool b) (.slice ao n c)
  have hR2 : (set3 w2 R (.int .i64 s) (.bool b) (.slice ao n c)).heap[R']? = some (.cells #[y0, y1, y2] 58 (0, 0)) := by
    unfold set3
    rw [Below.heap_setCell _ _ _ _ (Ne.symm hne), Below.heap_setCell _ _ _ _ (Ne.symm hne), Below.heap_setCell _ _ _ _ (Ne.symm hne)]
    exact hR'
  have hbl := ((hb.setCell (show w.heap.size ≤ (⟨R, 0, none⟩ : Addr).block from hRB) (.int .i64 s)).setCell (show w.heap.size ≤ (⟨R, 1, none⟩ : Addr).block from hRB) (.bool b)).setCell (show w.heap.size ≤ (⟨R, 2, none⟩ : Addr).block from hRB) (.slice ao n c)
  unfold set3 at hiv hiv' hR2
  generalize ((w2.setCell ⟨R, 0, none⟩ (.int .i64 s)).setCell ⟨R, 1, none⟩ (.bool b)).setCell ⟨R, 2, none⟩ (.slice ao n c) = w3 at *
  have g3 := heap_set (heap_set (heap_set hR2 0 (.int .i64 s')) 1 (.bool b')) 2 (.slice ao' n' c')
  have giv := hiv.set3 hR2 (.int .i64 s') (.bool b') (.slice ao' n' c')
  have giv' := hiv'.set3 hR2 (.int .i64 s') (.bool b') (.slice ao' n' c')
  have h4 : (set3 w3 R' (.int .i64 s') (.bool b') (.slice ao' n' c')).heap[R]? = w3.heap[R]? := by
    unfold set3
    rw [Below.heap_setCell _ _ _ _ hne, Below.heap_setCell _ _ _ _ hne, Below.heap_setCell _ _ _ _ hne]
  rw [h3] at h4
  have gbl := ((hbl.setCell (show w.heap.size ≤ (⟨R', 0, none⟩ : Addr).block from hRB') (.int .i64 s')).setCell (show w.heap.size ≤ (⟨R', 1, none⟩ : Addr).block from hRB') (.bool b')).setCell (show w.heap.size ≤ (⟨R', 2, none⟩ : Addr).block from hRB') (.slice ao' n' c')
  unfold set3 at giv giv' h4
  generalize ((w3.setCell ⟨R', 0, none⟩ (.int .i64 s')).setCell ⟨R', 1, none⟩ (.bool b')).setCell ⟨R', 2, none⟩ (.slice ao' n' c') = w4 at *
  have k0 := heap_cell h4 0
  have k1 := heap_cell h4 1
  have k2 := heap_cell h4 2
  have l0 := heap_cell g3 0
  have l1 := heap_cell g3 1
  have l2 := heap_cell g3 2
  simp at k0 k1 k2 l0 l1 l2
  refine bodyPost_ret (v := .tuple #[.agg #[.int .i64 s, .bool b, .slice ao n c], .agg #[.int .i64 s', .bool b', .slice ao' n' c']]) ?_ hd ⟨_, _, rfl, giv, giv', gbl⟩
  have ht1 : a.tmps[t]?.getD undef = .pointer (some ⟨R, 0, none⟩) := by simpa using ht
  have ht2 : a.tmps[t']?.getD undef = .pointer (some ⟨R', 0, none⟩) := by simpa using ht'
  simp [results, hres, go_sem, ht1, ht2, k0, k1, k2, l0, l1, l2]
theorem quoRem_ss {za zb : Int} (w : World) (hza : Small za) (hzb : Small zb) (h0 : zb ≠ 0) :
    Calls Tryz.prog 99 #[.agg #[.int .i64 za, .bool false, .slice none 0 0], .agg #[.int .i64 zb, .bool false, .slice none 0 0]] w (QRPost za zb w) := by
  have kq0 := mag_eql0
  have hds := ediv_small (b := zb) hza
  have hms := emod_small (a := za) hzb h0
  obtain ⟨t1, t2, t3⟩ := tdiv_cases (a := za) h0
  have T1 := Lib.hid t1
  have T2 := Lib.hid t2
  have T3 := Lib.hid t3
  have h0b : (zb == 0) = false := by simpa using h0
  have hqa : (za.tdiv zb).natAbs ≤ za.natAbs := by rw [Int.natAbs_tdiv]; exact Nat.div_le_self _ _
  have hra : (za.tmod zb).natAbs < zb.natAbs := by rw [Int.natAbs_tmod]; exact Nat.mod_lt _ (by omega)
  have DS := Lib.hid hds
  have MS := Lib.hid hms
  obtain ⟨q1, q2⟩ := hza
  obtain ⟨q3, q4⟩ := hzb
  clear t1 t2 t3 hds hms
  obtain ⟨Q, hQ⟩ : ∃ Q, za.tdiv zb = Q := ⟨_, rfl⟩
  obtain ⟨R, hR⟩ : ∃ R, za.tmod zb = R := ⟨_, rfl⟩
  have b1 : -9223372036854775807 ≤ Q := by omega
  have b2 : Q ≤ 9223372036854775807 := by omega
  have b3 : -9223372036854775807 ≤ R := by omega
  have b4 : R ≤ 9223372036854775807 := by omega
  have b5 := hra
  rw [hR] at b5
  clear hqa hra
  by_cases hr : R < 0
  · by_cases hp : 0 < zb
    · have HE : Hid (za / zb = Q - 1 ∧ za % zb = R + zb) := Lib.hid (by have := T2.out (by rw [hR]; exact hr) hp; rw [hQ, hR] at this; exact this)
      have HS1 : Hid (Small (Q - 1)) := Lib.hid (by have := DS.out; rw [HE.out.1] at this; exact this)
      have HS2 : Hid (Small (R + zb)) := Lib.hid (by have := MS.out; rw [HE.out.2] at this; exact this)
      obtain ⟨v1, v2⟩ := HS1.out
      obtain ⟨v3, v4⟩ := HS2.out
      go_enter Tryz.func99, Tryz.ntmps99
      go_wp2
      go_quiet (fail)
      go_wp2
      go_quiet (fail)
      go_wp2
      exact end_two Tryz.results99 rfl rfl rfl (new_fourth w _ _ _ _).2 (new_fourth w _ _ _ _).1 (by omega) (small_iv _ HS1.out) (small_iv _ HS2.out) HE.out.1 HE.out.2 (below_drewN (below4 w _ _ _ _) _) (by omega) (by omega)
    · have hp2 : zb < 0 := by omega
      have HE : Hid (za / zb = Q + 1 ∧ za % zb = R - zb) := Lib.hid (by have := T3.out (by rw [hR]; exact hr) hp2; rw [hQ, hR] at this; exact this)
      have HS1 : Hid (Small (Q + 1)) := Lib.hid (by have := DS.out; rw [HE.out.1] at this; exact this)
      have HS2 : Hid (Small (R - zb)) := Lib.hid (by have := MS.out; rw [HE.out.2] at this; exact this)
      obtain ⟨v1, v2⟩ := HS1.out
      obtain ⟨v3, v4⟩ := HS2.out
      go_enter Tryz.func99, Tryz.ntmps99
      go_wp2
      go_quiet (fail)
      go_wp2
      go_quiet (fail)
      go_wp2
      exact end_two Tryz.results99 rfl rfl rfl (new_fourth w _ _ _ _).2 (new_fourth w _ _ _ _).1 (by omega) (small_iv _ HS1.out) (small_iv _ HS2.out) HE.out.1 HE.out.2 (below_drewN (below4 w _ _ _ _) _) (by omega) (by omega)
  · have HE : Hid (za / zb = Q ∧ za % zb = R) := Lib.hid (by have := T1.out (by rw [hR]; omega); rw [hQ, hR] at this; exact this)
    have HS1 : Hid (Small (Q)) := Lib.hid (by have := DS.out; rw [HE.out.1] at this; exact this)
    have HS2 : Hid (Small (R)) := Lib.hid (by have := MS.out; rw [HE.out.2] at this; exact this)
    go_enter Tryz.func99, Tryz.ntmps99
    go_wp2
    go_quiet (fail)
    go_wp2
    exact end_two Tryz.results99 rfl rfl rfl (new_fourth w _ _ _ _).2 (new_fourth w _ _ _ _).1 (by omega) (small_iv _ HS1.out) (small_iv _ HS2.out) HE.out.1 HE.out.2 (below_drewN (below4 w _ _ _ _) _) (by omega) (by omega)
/-- QuoRem at integers of at most that size does what it should -/
def QR (M : Nat) : Prop := ∀ (x y : Value) (za zb : Int) (w : World), IV w x za → IV w y zb → za.natAbs ≤ M → zb.natAbs ≤ M → zb ≠ 0 → Calls Tryz.prog 99 #[x, y] w (QRPost za zb w)
theorem iv_small {w : World} {v : Value} {z : Int} (h : IV w v z) (hs : Small z) : v = smallV z := by
  rcases h with ⟨h, _⟩ | ⟨b, g, off, cap, l, _, _, h3, rfl⟩
  · exact h
  · exact absurd hs (big_sgn h3).1
theorem qr_small : QR 9223372036854775807 := by
  intro x y za zb w ha hb h1 h2 h0
  have hza : Small za := by unfold Small; omega
  have hzb : Small zb := by unfold Small; omega
  rw [iv_small ha hza, iv_small hb hzb]
  exact quoRem_ss w hza hzb h0
end
end Go.Proofs.YtgehimcngljmnaaGreatDoor

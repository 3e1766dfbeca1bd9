/- Linear expressions: numbers by Must and One, the test on 0, the order of names. -/
import Derived.Test.YtgfoljpjdmeooaaGreatDoorLA
import Derived.Test.YtgfoljpjdmeooaaGreatDoorNT
namespace Nmx
theorem DS.sub {d e : Nat} {p q : Rat} (hp : DS d p) (hq : DS e q) : DS (d + e + 1) (p - q) := by
  rw [Rat.sub_eq_add_neg]; exact hp.add hq.neg
theorem DS.one {d : Nat} (h : 0 < d) : DS d 1 := DS.int (z := 1) (Nat.one_lt_pow (by omega) (by omega))
end Nmx
namespace Go.Proofs.YtgfoljpjdmeooaaGreatDoor
open Go.RowKit Nmx
open Go.Lib (compareBytes)

section
set_option maxRecDepth 100000
set_option maxHeartbeats 4000000
theorem mustT {d : Nat} {q : Rat} (hq : DS d q) (hd : d ≤ 3000) (W : World) (h : Env W) : Calls Tryz.prog 43 #[.string (TX q)] W (GetsQ q W) := by
  have hb0 : Below W.heap.size W (W.alloc (.cells #[.int .i64 0, .bool false, .slice none 0 0, .int .i64 0, .bool false, .slice none 0 0] 72)) := (Below.refl _ _).alloc (Nat.le_refl _) _
  have hpa := parseT hq hd _ (h.far hb0)
  have HB0 := Lib.hid hb0
  have HR0 := Lib.hid (heap_alloc_new W (.cells #[.int .i64 0, .bool false, .slice none 0 0, .int .i64 0, .bool false, .slice none 0 0] 72))
  clear h hq hb0
  generalize TX q = tq at *
  go_enter Tryz.func43, Tryz.ntmps43
  go_wp2_with fail
  refine hpa.mono ?_
  rintro e w1 ⟨v1, rfl, hv1, hb1⟩
  have hsz := hb1.size
  obtain ⟨s1, b1, a1, n1, c1, s2, b2, a2, n2, c2, rfl, i1, i2⟩ := rv_form hv1
  have hal : Below w1.heap.size w1 (w1.alloc (.cells #[.int .i64 s1, .bool b1, .slice a1 n1 c1, .int .i64 s2, .bool b2, .slice a2 n2 c2] 72)) := (Below.refl _ _).alloc (Nat.le_refl _) _
  have hR := (hal.block _ (lt_of_heap ((hb1.block _ (lt_of_heap HR0.out)).trans HR0.out))).trans ((hb1.block _ (lt_of_heap HR0.out)).trans HR0.out)
  have HR := Lib.hid hR
  have HI1 := Lib.hid (i1.far hal)
  have HI2 := Lib.hid (i2.far hal)
  have HB := Lib.hid ((HB0.out.trans (hb1.mono HB0.out.size)).alloc (by have := HB0.out.size; omega) (.cells #[.int .i64 s1, .bool b1, .slice a1 n1 c1, .int .i64 s2, .bool b2, .slice a2 n2 c2] 72))
  have r0 := heap_cell hR 0
  have r1 := heap_cell hR 1
  have r2 := heap_cell hR 2
  have r3 := heap_cell hR 3
  have r4 := heap_cell hR 4
  have r5 := heap_cell hR 5
  have fr := fun i => heap_fz hR i
  have hlt : W.heap.size < w1.heap.size := by simp at hsz; omega
  have HN := Lib.hid (heap_alloc_new w1 (.cells #[.int .i64 s1, .bool b1, .slice a1 n1 c1, .int .i64 s2, .bool b2, .slice a2 n2 c2] 72))
  clear hv1 hb1 hpa i1 i2 hal hR hsz r0 r1 r2 r3 r4 r5 fr
  go_upto_region 2 with fail
  generalize w1.alloc (.cells #[.int .i64 s1, .bool b1, .slice a1 n1 c1, .int .i64 s2, .bool b2, .slice a2 n2 c2] 72) = w2 at *
  generalize w1.heap.size = R at *
  have r0 := heap_cell HR.out 0
  have r1 := heap_cell HR.out 1
  have r2 := heap_cell HR.out 2
  have r3 := heap_cell HR.out 3
  have r4 := heap_cell HR.out 4
  have r5 := heap_cell HR.out 5
  have fr := fun i => heap_fz HR.out i
  have k0 := heap_cell HN.out 0
  have k1 := heap_cell HN.out 1
  have k2 := heap_cell HN.out 2
  have k3 := heap_cell HN.out 3
  have k4 := heap_cell HN.out 4
  have k5 := heap_cell HN.out 5
  go_wp2
  exact end_rat Tryz.results43 rfl rfl HR.out HI1.out HI2.out HB.out (Nat.le_refl _)
theorem oneQ (W : World) : Calls Tryz.prog 40 #[] W (GetsQ 1 W) := by
  have hb0 : Below W.heap.size W (W.alloc (.cells #[.int .i64 0, .bool false, .slice none 0 0, .int .i64 0, .bool false, .slice none 0 0] 72)) := (Below.refl _ _).alloc (Nat.le_refl _) _
  have hfi := fromInt64_any 1 (W.alloc (.cells #[.int .i64 0, .bool false, .slice none 0 0, .int .i64 0, .bool false, .slice none 0 0] 72)) (by omega) (by omega)
  have HB0 := Lib.hid hb0
  have HR0 := Lib.hid (heap_alloc_new W (.cells #[.int .i64 0, .bool false, .slice none 0 0, .int .i64 0, .bool false, .slice none 0 0] 72))
  clear hb0
  go_enter Tryz.func40, Tryz.ntmps40
  go_wp2_with fail
  refine hfi.mono ?_
  rintro e w1 ⟨v1, rfl, hv1, hb1⟩
  have HI := Lib.hid hv1
  obtain ⟨s1, b1, a1, n1, c1, rfl⟩ := iv_form hv1
  have hR := (hb1.block _ (lt_of_heap HR0.out)).trans HR0.out
  have HR := Lib.hid hR
  have HB := Lib.hid (HB0.out.trans (hb1.mono HB0.out.size))
  have r0 := heap_cell hR 0
  have r1 := heap_cell hR 1
  have r2 := heap_cell hR 2
  have r3 := heap_cell hR 3
  have r4 := heap_cell hR 4
  have r5 := heap_cell hR 5
  have fr := fun i => heap_fz hR i
  clear hv1 hb1 hfi hR
  go_wp2
  exact end_rat Tryz.results40 rfl rfl HR.out (by rw [show (1 : Rat).num = 1 from rfl]; exact HI.out) (by rw [denI_one (show (1 : Rat).den = 1 from rfl)]; exact zeroIV _) HB.out (Nat.le_refl _)
theorem ratIsZero_any (v : Value) (q : Rat) (w : World) (hv : RV w v q) : Calls Tryz.prog 71 #[v] w fun e w' => e = .returned (.bool (decide (q.num = 0))) ∧ Below w.heap.size w w' := by
  obtain ⟨s1, b1, a1, n1, c1, s2, b2, a2, n2, c2, rfl, i1, i2⟩ := rv_form hv
  have hal : Below w.heap.size w (w.alloc (.cells #[.int .i64 s1, .bool b1, .slice a1 n1 c1, .int .i64 s2, .bool b2, .slice a2 n2 c2] 72)) := (Below.refl _ _).alloc (Nat.le_refl _) _
  have hz := isZero_any _ q.num _ (i1.far hal)
  have HB := Lib.hid hal
  obtain ⟨z, hqz⟩ : ∃ z, q.num = z := ⟨_, rfl⟩
  rw [hqz] at hz ⊢
  clear hv i1 i2 hal hqz
  go_enter Tryz.func71, Tryz.ntmps71
  go_wp2_with fail
  refine hz.mono ?_
  rintro e w1 ⟨rfl, hb1⟩
  have HB1 := Lib.hid (HB.out.trans (hb1.mono HB.out.size))
  clear hb1 hz
  go_wp2
  go_ret
  exact ⟨rfl, HB1.out⟩
theorem cmpStr_any (a b : ByteArray) (w : World) : Calls Tryz.prog 116 #[.string a, .string b] w fun e w' => e = .returned (.int .i64 (compareBytes a.data.toList b.data.toList)) ∧ w' = w := by
  go_enter Tryz.func116, Tryz.ntmps116
  go_wp2
  rw [run_callFunc_extern Tryz.func140 (by kernel_rfl) (by kernel_rfl) (by kernel_rfl) (e := Extern.BytealgCompare.compare) (by kernel_rfl), Lib.run_compareString]
  simp only [Result.andThen]
  rw [Oper.upon_value]
  go_wp2
  go_ret
  exact ⟨rfl, rfl⟩
theorem strCmp_any (a b : ByteArray) (w : World) : Calls Tryz.prog 78 #[.string a, .string b] w fun e w' => e = .returned (.int .i64 (compareBytes a.data.toList b.data.toList)) ∧ w' = w := by
  have hc := cmpStr_any a b w
  go_enter Tryz.func78, Tryz.ntmps78
  go_wp2_with fail
  refine hc.mono ?_
  rintro e w1 ⟨rfl, hw⟩
  obtain rfl := hw.symm
  go_wp2
  go_ret
  exact ⟨rfl, rfl⟩
theorem isNumeric_any (s : Int) (w : World) (hs : s = 2 ∨ s = 3) : Calls Tryz.prog 57 #[.int .i64 s] w fun e w' => e = .returned (.bool true) ∧ w' = w := by
  rcases hs with rfl | rfl
  · go_enter Tryz.func57, Tryz.ntmps57
    go_wp2
    go_ret
    exact ⟨rfl, rfl⟩
  · go_enter Tryz.func57, Tryz.ntmps57
    go_wp2
    go_ret
    exact ⟨rfl, rfl⟩
end
end Go.Proofs.YtgfoljpjdmeooaaGreatDoor

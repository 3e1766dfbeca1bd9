/- Normal at a comparison by RelLe of sort SortInt: ValidConstraint, Normal; the sanity check. -/
import Derived.Test.YtgfoljpjdmeooaaGreatDoorLM
namespace Go.Proofs.YtgfoljpjdmeooaaGreatDoor
open Go.RowKit Nmx

section
set_option maxRecDepth 100000
set_option maxHeartbeats 8000000
theorem validLe {d : Nat} {w : World} {a1 : Option Addr} {n1 c1 : Nat} {t1 : ByteArray} {p : Rat} {cs : List (List UInt8 × Rat)} (h : LV w (.agg #[.int .i64 2, .slice a1 n1 c1, .string t1]) 2 d p cs) (hd : d ≤ 3000) (hE : Env w) :
    Calls Tryz.prog 27 #[.agg #[.int .i64 1, .int .i64 2, .slice a1 n1 c1, .string t1, .string ⟨#[]⟩]] w fun e w' => e = .returned (.bool true) ∧ Below w.heap.size w w' := by
  have hal : Below w.heap.size w (w.alloc (.cells #[.int .i64 1, .int .i64 2, .slice a1 n1 c1, .string t1, .string ⟨#[]⟩] 39)) := (Below.refl _ _).alloc (Nat.le_refl _) _
  have hv := validL (h.far hal) (.inl rfl) hd (hE.far hal)
  have HA := Lib.hid (heap_alloc_new w (.cells #[.int .i64 1, .int .i64 2, .slice a1 n1 c1, .string t1, .string ⟨#[]⟩] 39))
  have HB := Lib.hid hal
  clear h hE hal
  go_enter Tryz.func27, Tryz.ntmps27
  go_wp2_with fail
  refine hv.mono ?_
  rintro e w1 ⟨rfl, hb⟩
  have hA1 := (hb.block _ (lt_of_heap HA.out)).trans HA.out
  have HB1 := Lib.hid (HB.out.trans (hb.mono HB.out.size))
  have p0 := heap_cell hA1 0
  have p4 := heap_cell hA1 4
  clear hb hv hA1
  go_wp2
  go_ret
  exact ⟨rfl, HB1.out⟩
theorem normalT {d : Nat} {w : World} {a1 : Option Addr} {n1 c1 : Nat} {t1 : ByteArray} {p : Rat} {cs : List (List UInt8 × Rat)} (h : LV w (.agg #[.int .i64 2, .slice a1 n1 c1, .string t1]) 2 d p cs) (hne : cs ≠ []) (hd : d ≤ 70) (hE : Env w) :
    Calls Tryz.prog 22 #[.agg #[.int .i64 1, .int .i64 2, .slice a1 n1 c1, .string t1, .string ⟨#[]⟩]] w (GetsCE (27 * d + 8) ((ceI (kP cs * p) : Int) : Rat) (fun n => kP cs * cof cs n) w) := by
  have hvl : ∀ W, Below w.heap.size w W → Calls Tryz.prog 27 #[.agg #[.int .i64 1, .int .i64 2, .slice a1 n1 c1, .string t1, .string ⟨#[]⟩]] W fun e w' => e = .returned (.bool true) ∧ Below W.heap.size W w' := fun W hW => validLe (h.far hW) (by omega) (hE.far hW)
  have hnc : ∀ W, Below w.heap.size w W → Calls Tryz.prog 55 #[.agg #[.int .i64 1, .int .i64 2, .slice a1 n1 c1, .string t1, .string ⟨#[]⟩]] W (GetsC (27 * d + 8) ((ceI (kP cs * p) : Int) : Rat) (fun n => kP cs * cof cs n) W) := fun W hW => normalLe (h.far hW) hne hd (hE.far hW)
  have hn1 : 0 < n1 := by
    obtain ⟨_, _, _, _, he, -⟩ := h
    injection he with he
    injection he with he
    injection he with _ he
    injection he with he1 _
    injection he1 with _ e2 _
    rw [e2]
    exact List.length_pos_iff.2 hne
  have HVL := Lib.hid hvl
  have HNC := Lib.hid hnc
  obtain ⟨m1, m2, mb⟩ := newL2 w (.cells #[.int .i64 1, .int .i64 2, .slice a1 n1 c1, .string t1, .string ⟨#[]⟩] 39) (.cells #[.int .i64 0, .int .i64 0, .slice none 0 0, .string ⟨#[]⟩, .string ⟨#[]⟩] 39)
  have HM1 := Lib.hid m1
  have HM2 := Lib.hid m2
  have HMB := Lib.hid mb
  generalize ((ceI (kP cs * p) : Int) : Rat) = qc at *
  generalize (fun n => kP cs * cof cs n) = fc at *
  have hnn : ((n1 : Int) == 0) = false := by rw [beq_eq_false_iff_ne]; omega
  have hnd : decide ((n1 : Int) = 0) = false := decide_eq_false (by omega)
  clear hvl hnc m1 m2 mb h hE hn1
  go_enter Tryz.func22, Tryz.ntmps22
  go_wp2_with fail
  generalize (w.alloc (.cells #[.int .i64 1, .int .i64 2, .slice a1 n1 c1, .string t1, .string ⟨#[]⟩] 39)).alloc (.cells #[.int .i64 0, .int .i64 0, .slice none 0 0, .string ⟨#[]⟩, .string ⟨#[]⟩] 39) = w3 at *
  refine (HVL.out _ HMB.out).mono ?_
  rintro e w4 ⟨rfl, hb⟩
  have HA4 := Lib.hid ((hb.block _ (lt_of_heap HM1.out)).trans HM1.out)
  have HR4 := Lib.hid ((hb.block _ (lt_of_heap HM2.out)).trans HM2.out)
  have HB4 := Lib.hid (HMB.out.trans (hb.mono HMB.out.size))
  clear hb
  have p0 := heap_cell HA4.out 0
  have p1 := heap_cell HA4.out 1
  have p2 := heap_cell HA4.out 2
  have p3 := heap_cell HA4.out 3
  have p4 := heap_cell HA4.out 4
  go_wp2_with fail
  refine (HNC.out _ HB4.out).mono ?_
  rintro e w5 ⟨rs, ao, n, cp, tx, rfl, hl, hf, hb⟩
  have HR5 := Lib.hid ((hb.block _ (lt_of_heap HR4.out)).trans HR4.out)
  have HB5 := Lib.hid (HB4.out.trans (hb.mono HB4.out.size))
  have HL := Lib.hid hl
  have HF := Lib.hid hf
  clear hb hl hf p0 p1 p2 p3 p4
  have r0 := heap_cell HR5.out 0
  have r1 := heap_cell HR5.out 1
  have r2 := heap_cell HR5.out 2
  have r3 := heap_cell HR5.out 3
  have r4 := heap_cell HR5.out 4
  have fr := fun i => heap_fz HR5.out i
  go_wp2_with fail
  exact end_con2 rfl rfl rfl rfl (set5_heap HR5.out _ _ _ _ _) ⟨rs, ao, n, cp, tx, rfl, HL.out.but HR5.out (by decide) (fun g hg => set5_other _ _ _ _ _ hg), HF.out, set5_below HB5.out (by omega) _ _ _ _ _⟩
end
end Go.Proofs.YtgfoljpjdmeooaaGreatDoor

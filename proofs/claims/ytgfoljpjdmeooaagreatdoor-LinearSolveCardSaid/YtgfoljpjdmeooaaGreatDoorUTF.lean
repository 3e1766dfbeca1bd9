/- The reference's ValidConstraint at constraints that are valid. -/
import Derived.Test.YtgfoljpjdmeooaaGreatDoorUTE
namespace Go.Proofs.YtgfoljpjdmeooaaGreatDoor
open Go.RowKit Nmx

section
set_option maxRecDepth 100000
set_option maxHeartbeats 8000000
theorem refValidC {d : Nat} {w : World} {r s : Int} {a1 : Option Addr} {n1 c1 : Nat} {t1 : ByteArray} {p : Rat} {cs : List (List UInt8 × Rat)} {M : Option Int} (h : LV w (.agg #[.int .i64 s, .slice a1 n1 c1, .string t1]) s d p cs) (hk : ConM r s d M) (hd : d ≤ 3000) :
    Calls Tryz.prog 28 #[.agg #[.int .i64 r, .int .i64 s, .slice a1 n1 c1, .string t1, .string (TXo M)]] w fun e w' => e = .returned (.bool true) ∧ Below w.heap.size w w' := by
  cases M with
  | none =>
    obtain ⟨hs, hr⟩ := hk
    have hal := (Below.refl w.heap.size w).alloc (Nat.le_refl _) (.cells #[.int .i64 r, .int .i64 s, .slice a1 n1 c1, .string t1, .string ⟨#[]⟩] 39)
    have hv := refValidL (h.far hal) hs hd
    have HA := Lib.hid (heap_alloc_new w (.cells #[.int .i64 r, .int .i64 s, .slice a1 n1 c1, .string t1, .string ⟨#[]⟩] 39))
    have HB := Lib.hid hal
    have HV := Lib.hid hv
    clear h hal hs hv
    show Calls Tryz.prog 28 #[.agg #[.int .i64 r, .int .i64 s, .slice a1 n1 c1, .string t1, .string ⟨#[]⟩]] w fun e w' => e = .returned (.bool true) ∧ Below w.heap.size w w'
    go_enter Tryz.func28, Tryz.ntmps28
    go_wp2_with fail
    refine HV.out.mono ?_
    rintro e w1 ⟨rfl, hb⟩
    replace HA := Lib.hid ((hb.block _ (lt_of_heap HA.out)).trans HA.out)
    replace HB := Lib.hid (HB.out.trans (hb.mono HB.out.size))
    have p0 := heap_cell HA.out 0
    have p4 := heap_cell HA.out 4
    clear hb HV
    rcases hr with rfl | rfl | rfl
    all_goals
      go_wp2
      go_ret
      exact ⟨rfl, HB.out⟩
  | some m =>
    obtain ⟨rfl, hr, hm, hmd⟩ := hk
    have hii := fun W => refIsIntT hmd (by omega) W
    have hsg := fun W => refSignT hmd (by omega) W
    rw [Rat.den_intCast] at hii
    rw [Rat.num_intCast, sgn_pos hm] at hsg
    show Calls Tryz.prog 28 #[.agg #[.int .i64 r, .int .i64 2, .slice a1 n1 c1, .string t1, .string (TX (m : Rat))]] w fun e w' => e = .returned (.bool true) ∧ Below w.heap.size w w'
    generalize TX (m : Rat) = tm at *
    have hal := (Below.refl w.heap.size w).alloc (Nat.le_refl _) (.cells #[.int .i64 r, .int .i64 2, .slice a1 n1 c1, .string t1, .string tm] 39)
    have hv := refValidL (h.far hal) (.inl rfl) hd
    have HA := Lib.hid (heap_alloc_new w (.cells #[.int .i64 r, .int .i64 2, .slice a1 n1 c1, .string t1, .string tm] 39))
    have HB := Lib.hid hal
    have HV := Lib.hid hv
    have HII := Lib.hid hii
    have HSG := Lib.hid hsg
    clear h hal hm hmd hii hsg hv
    go_enter Tryz.func28, Tryz.ntmps28
    go_wp2_with fail
    refine HV.out.mono ?_
    rintro e w1 ⟨rfl, hb⟩
    replace HA := Lib.hid ((hb.block _ (lt_of_heap HA.out)).trans HA.out)
    replace HB := Lib.hid (HB.out.trans (hb.mono HB.out.size))
    have p0 := heap_cell HA.out 0
    have p1 := heap_cell HA.out 1
    have p4 := heap_cell HA.out 4
    clear hb HV
    rcases hr with rfl | rfl
    all_goals
      go_wp2_with fail
      refine (HII.out _).mono ?_
      rintro e w2 ⟨rfl, hb⟩
      replace HA := Lib.hid ((hb.block _ (lt_of_heap HA.out)).trans HA.out)
      replace HB := Lib.hid (HB.out.trans (hb.mono HB.out.size))
      clear hb p0 p1 p4
      have p4 := heap_cell HA.out 4
      go_wp2_with fail
      refine (HSG.out _).mono ?_
      rintro e w3 ⟨rfl, hb⟩
      replace HB := Lib.hid (HB.out.trans (hb.mono HB.out.size))
      clear hb p4 HA
      go_wp2
      go_ret
      exact ⟨rfl, HB.out⟩
end
end Go.Proofs.YtgfoljpjdmeooaaGreatDoor

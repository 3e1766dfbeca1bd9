/- compares; sameConstraint; Normal at constraints without variables. -/
import Derived.Test.YtgfoljpjdmeooaaGreatDoorWLY
import Derived.Test.YtgfoljpjdmeooaaGreatDoorWLD
namespace Go.Proofs.YtgfoljpjdmeooaaGreatDoor
open Go.RowKit Nmx

/-- whether a number is in a relation to 0 -/
def cmpF (r : Int) (x : Rat) : Bool := if r = 1 then decide (sgnI x.num ≤ 0) else if r = 2 then decide (sgnI x.num < 0) else decide (x.num = 0)
section
set_option maxRecDepth 100000
set_option maxHeartbeats 8000000
theorem compares_any {w : World} {v : Value} {x : Rat} {r : Int} (hv : RV w v x) (hr : r = 1 ∨ r = 2 ∨ r = 3) :
    Calls Tryz.prog 54 #[v, .int .i64 r] w fun e w' => e = .returned (.bool (cmpF r x)) ∧ Below w.heap.size w w' := by
  have hv0 := hv;obtain ⟨s1, b1, ao1, n1, c1, s2, b2, ao2, n2, c2, rfl, -⟩ := rv_form hv;have hal := (Below.refl w.heap.size w).alloc (Nat.le_refl _) (.cells #[.int .i64 s1, .bool b1, .slice ao1 n1 c1, .int .i64 s2, .bool b2, .slice ao2 n2 c2] 72);have hsg := ratSign_any _ x _ (hv0.far hal);have hz := ratIsZero_any _ x _ (hv0.far hal);have HB := Lib.hid hal;have HA := Lib.hid (heap_alloc_new w (.cells #[.int .i64 s1, .bool b1, .slice ao1 n1 c1, .int .i64 s2, .bool b2, .slice ao2 n2 c2] 72));have HSG := Lib.hid hsg;have HZ := Lib.hid hz;clear hv hv0 hal hsg hz;rcases hr with rfl | rfl | rfl
  · obtain ⟨z, hz⟩ : ∃ z, sgnI x.num = z := ⟨_, rfl⟩
    have HSG2 : Hid _ := HSG;rw [hz] at HSG2;have e : cmpF 1 x = decide (z ≤ 0) := by unfold cmpF; rw [if_pos rfl, hz]
    rw [e];clear HSG HZ hz e
    go_enter Tryz.func54, Tryz.ntmps54
    go_wp2_with fail
    refine HSG2.out.mono ?_;rintro e w1 ⟨rfl, hb⟩;replace HB := Lib.hid (HB.out.trans (hb.mono HB.out.size));clear hb HSG2 HA
    go_wp2
    go_ret
    exact ⟨rfl, HB.out⟩
  · obtain ⟨z, hz⟩ : ∃ z, sgnI x.num = z := ⟨_, rfl⟩
    have HSG2 : Hid _ := HSG;rw [hz] at HSG2;have e : cmpF 2 x = decide (z < 0) := by unfold cmpF; rw [if_neg (by decide), if_pos rfl, hz]
    rw [e];clear HSG HZ hz e
    go_enter Tryz.func54, Tryz.ntmps54
    go_wp2_with fail
    refine HSG2.out.mono ?_;rintro e w1 ⟨rfl, hb⟩;replace HB := Lib.hid (HB.out.trans (hb.mono HB.out.size));clear hb HSG2 HA
    go_wp2
    go_ret
    exact ⟨rfl, HB.out⟩
  · have e : cmpF 3 x = decide (x.num = 0) := by unfold cmpF; rw [if_neg (by decide), if_neg (by decide)]
    rw [e];clear HSG e;generalize decide (x.num = 0) = bz at *
    go_enter Tryz.func54, Tryz.ntmps54
    go_wp2_with fail
    refine HZ.out.mono ?_;rintro e w1 ⟨rfl, hb⟩;replace HB := Lib.hid (HB.out.trans (hb.mono HB.out.size));clear hb HZ HA
    go_wp2
    go_ret
    exact ⟨rfl, HB.out⟩
/-- sameConstraint at equal constraints -/
theorem sameC {w : World} {r s : Int} {a1 a2 : Option Addr} {n1 c1 n2 c2 : Nat} {t1 t2 tm : ByteArray} {d1 d2 : Nat} {p : Rat} {cs cs' : List (List UInt8 × Rat)} (h : LV w (.agg #[.int .i64 s, .slice a1 n1 c1, .string t1]) s d1 p cs) (h' : LV w (.agg #[.int .i64 s, .slice a2 n2 c2, .string t2]) s d2 p cs') (hf : ∀ n, cof cs n = cof cs' n) :
    Calls Tryz.prog 23 #[.agg #[.int .i64 r, .int .i64 s, .slice a1 n1 c1, .string t1, .string tm], .agg #[.int .i64 r, .int .i64 s, .slice a2 n2 c2, .string t2, .string tm]] w fun e w' => e = .returned (.bool true) ∧ Below w.heap.size w w' := by
  have hsm : ∀ W, Below w.heap.size w W → Calls Tryz.prog 15 #[.agg #[.int .i64 s, .slice a1 n1 c1, .string t1], .agg #[.int .i64 s, .slice a2 n2 c2, .string t2]] W fun e w' => e = .returned (.bool true) ∧ Below W.heap.size W w' := by
    intro W hW;obtain ⟨b, g, off, cp, he, hr, -, hg, -⟩ := h.far hW;obtain ⟨b', g', off', cp', he', hr', -, hg', -⟩ := h'.far hW;rw [he, he'];obtain rfl : cs = cs' := can_ext ord_ltB _ _ hg.can hg'.can hf;exact same_ok W s cs (TX p) b g off cp b' g' off' cp' hr hr'
  have HSM := Lib.hid hsm;clear hsm h h' hf;obtain ⟨m1, m2, mb⟩ := newL2 w (.cells #[.int .i64 r, .int .i64 s, .slice a1 n1 c1, .string t1, .string tm] 39) (.cells #[.int .i64 r, .int .i64 s, .slice a2 n2 c2, .string t2, .string tm] 39);have HM1 := Lib.hid m1;have HM2 := Lib.hid m2;have HB := Lib.hid mb;clear m1 m2 mb
  go_enter Tryz.func23, Tryz.ntmps23
  go_wp2_with fail
  refine (HSM.out _ HB.out).mono ?_;rintro e w1 ⟨rfl, hb⟩;replace HB := Lib.hid (HB.out.trans (hb.mono HB.out.size));clear hb HM1 HM2
  go_wp2
  go_ret
  exact ⟨rfl, HB.out⟩
end
/-- the modulus as a text: none at a comparison -/
def TXo : Option Int → ByteArray
  | none => ⟨#[]⟩
  | some m => TX (m : Rat)
/-- relation, sort and modulus fit; the modulus has few digits -/
def ConM (r s : Int) (d : Nat) : Option Int → Prop
  | none => (s = 2 ∨ s = 3) ∧ (r = 1 ∨ r = 2 ∨ r = 3)
  | some m => s = 2 ∧ (r = 4 ∨ r = 5) ∧ 1 ≤ m ∧ DS d (m : Rat)
theorem con_mod {r s : Int} {tm : ByteArray} (h : ConOk r s tm) : ∃ M, tm = TXo M ∧ ConM r s 26 M := by
  obtain ⟨hs, ⟨h1, h2, rfl⟩ | ⟨h1, h2, rfl, m, hm1, hm2, rfl⟩⟩ := h
  · exact ⟨none, rfl, hs, by omega⟩
  · exact ⟨some m, rfl, rfl, by omega, hm1, (ds_small hm1 hm2).mono (by decide)⟩
theorem ConM.sort {r s : Int} {d : Nat} {M : Option Int} (h : ConM r s d M) : s = 2 ∨ s = 3 := by
  cases M with
  | none => exact h.1
  | some m => exact .inl h.1
theorem tx_some (q : Rat) : (TX q).toList.isEmpty = false ∧ ((TX q).toList == []) = false := by
  have h1 := tx_ratF q
  have h : (TX q).data.toList ≠ [] := fun h => by
    rw [h, show ratF [] = none from rfl] at h1;cases h1
  rw [ByteArray.toList_eq]
  constructor
  · cases ht : (TX q).data.toList with
    | nil => exact absurd ht h
    | cons _ _ => rfl
  · simpa using h
end Go.Proofs.YtgfoljpjdmeooaaGreatDoor

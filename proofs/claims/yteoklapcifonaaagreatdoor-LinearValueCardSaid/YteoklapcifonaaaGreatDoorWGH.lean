/- Eval, Holds in any environment. -/
import Derived.Test.YteoklapcifonaaaGreatDoorWGF
import Derived.Test.YteoklapcifonaaaGreatDoorWPD
namespace Go.Proofs.YteoklapcifonaaaGreatDoor
open Go.RowKit Nmx

/-- the value as a text, or none -/
def evT (E : Int × Rat) : ByteArray := if E.1 = 0 then TX E.2 else ⟨#[]⟩
theorem evG_dx {d D : Nat} {w : World} {v : Value} {s : Int} {p : Rat} {cs : List (List UInt8 × Rat)} {es : List (List UInt8 × Int × Rat)} (h : LV w v s d p cs) (he : ∀ x ∈ es, EntOk D x.2) (hs : s = 2 ∨ s = 3) (hd : d ≤ 100) (hD : D ≤ 300) : DS 1800 (evG s (lkE es) p cs).2 := by
  obtain ⟨hg, dp⟩ := h.good;refine (evG_ds hs (fun n y => lkE_ok he) cs d p dp hg.ds).mono ?_;have h4 := can_len hg.can hg.nm;have h6 : cs.length * (d + D + 1) ≤ 4 * (d + D + 1) := Nat.mul_le_mul_right _ h4
  omega
theorem EG.ok {w : World} {v : Value} {D : Nat} {es : List (List UInt8 × Int × Rat)} (h : EG w v D es) : ∀ x ∈ es, EntOk D x.2 := let ⟨_, _, _, _, _, _, h3⟩ := h; h3
section
set_option maxRecDepth 100000
set_option maxHeartbeats 8000000
theorem linEvalG {d D : Nat} {w : World} {s : Int} {a1 : Option Addr} {n1 c1 : Nat} {t1 : ByteArray} {p : Rat} {cs : List (List UInt8 × Rat)} {ve : Value} {es : List (List UInt8 × Int × Rat)} (h : LV w (.agg #[.int .i64 s, .slice a1 n1 c1, .string t1]) s d p cs) (he : EG w ve D es) (hs : s = 2 ∨ s = 3) (hd : d ≤ 100) (hD : D ≤ 300) (hE : Env w) :
    Calls Tryz.prog 40 #[.agg #[.int .i64 s, .slice a1 n1 c1, .string t1], ve] w fun e w' => e = .returned (.tuple #[.string (evT (evG s (lkE es) p cs)), .int .i64 (evG s (lkE es) p cs).1]) ∧ Below w.heap.size w w' := by
  have hvl := fun W (hW : Below w.heap.size w W) => validL (h.far hW) hs (by omega) (hE.far hW)
  have hve := fun W (hW : Below w.heap.size w W) => validEnvG (by omega) W (he.far hW) (hE.far hW)
  have hev := fun W (hW : Below w.heap.size w W) => evalG_any (h.far hW) (he.far hW) hs hd hD (hE.far hW)
  have dx := evG_dx h he.ok hs hd hD;obtain ⟨ec, x, hx⟩ : ∃ a b, evG s (lkE es) p cs = (a, b) := ⟨_, _, rfl⟩
  rw [hx] at dx ⊢
  have hev' : ∀ W, Below w.heap.size w W → Calls Tryz.prog 93 #[.agg #[.int .i64 s, .slice a1 n1 c1, .string t1], ve] W fun e w' => ∃ v, e = .returned (.tuple #[v, .int .i64 ec]) ∧ RV w' v x ∧ Below W.heap.size W w' := fun W hW => by
    have := hev W hW;rw [hx] at this;exact this
  have hst : ∀ W v, Below w.heap.size w W → RV W v x → Calls Tryz.prog 94 #[v] W fun e w' => e = .returned (.string (TX x)) ∧ Below W.heap.size W w' := fun W v hW hv => ratString_any _ _ W hv (hE.far hW) (by have := Nmx.DS.parts (show DS 1800 x from dx); omega)
  have HVL := Lib.hid hvl;have HVE := Lib.hid hve;have HEV := Lib.hid hev';have HST := Lib.hid hst;have HB0 := Lib.hid (alloc_far w (.cells #[.int .i64 s, .slice a1 n1 c1, .string t1] 26));have HA := Lib.hid (heap_alloc_new w (.cells #[.int .i64 s, .slice a1 n1 c1, .string t1] 26));clear hvl hve hev hev' hst dx hx h he hE hs;show Calls Tryz.prog 40 #[.agg #[.int .i64 s, .slice a1 n1 c1, .string t1], ve] w fun e w' => e = .returned (.tuple #[.string (if ec = 0 then TX x else ⟨#[]⟩), .int .i64 ec]) ∧ Below w.heap.size w w'
  obtain ⟨tr, htr⟩ : ∃ t, TX x = t := ⟨_, rfl⟩
  rw [htr] at HST ⊢;clear htr
  go_enter Tryz.func40, Tryz.ntmps40
  go_wp2_with fail
  generalize w.alloc (.cells #[.int .i64 s, .slice a1 n1 c1, .string t1] 26) = w1 at *;refine (HVL.out _ HB0.out).mono ?_;rintro e w2 ⟨rfl, hb⟩;replace HB0 := Lib.hid (HB0.out.trans (hb.mono HB0.out.size));replace HA := Lib.hid ((hb.block _ (lt_of_heap HA.out)).trans HA.out);clear hb
  go_wp2_with fail
  refine (HVE.out _ HB0.out).mono ?_;rintro e w3 ⟨rfl, hb⟩;replace HB0 := Lib.hid (HB0.out.trans (hb.mono HB0.out.size));replace HA := Lib.hid ((hb.block _ (lt_of_heap HA.out)).trans HA.out);clear hb;have p0 := heap_cell HA.out 0;have p1 := heap_cell HA.out 1;have p2 := heap_cell HA.out 2
  go_wp2_with fail
  refine (HEV.out _ HB0.out).mono ?_;rintro e w4 ⟨v, rfl, hv, hb⟩;replace HB0 := Lib.hid (HB0.out.trans (hb.mono HB0.out.size));obtain ⟨s3, b3, ao3, n3, c3, s4, b4, ao4, n4, c4, rfl, -, -⟩ := rv_form hv;have hal := alloc_far w4 (.cells #[.int .i64 s3, .bool b3, .slice ao3 n3 c3, .int .i64 s4, .bool b4, .slice ao4 n4 c4] 85);have HV := Lib.hid (hv.far hal);replace HB0 := Lib.hid (HB0.out.trans (hal.mono HB0.out.size));clear hv hb hal p0 p1 p2 HA
  by_cases hec : ec = 0
  · subst hec
    go_wp2_with fail
    refine (HST.out _ _ HB0.out HV.out).mono ?_;rintro e w5 ⟨rfl, hb⟩;replace HB0 := Lib.hid (HB0.out.trans (hb.mono HB0.out.size));clear hb
    go_wp2
    go_ret2
    exact ⟨rfl, HB0.out⟩
  · have hb1 : (ec != 0) = true := by rw [bne_iff_ne]; exact hec
    have hb2 : decide (ec = 0) = false := decide_eq_false hec;have hb3 : (ec == 0) = false := by rw [beq_eq_false_iff_ne]; exact hec
    go_wp2
    go_ret2
    exact ⟨rfl, HB0.out⟩
end
end Go.Proofs.YteoklapcifonaaaGreatDoor

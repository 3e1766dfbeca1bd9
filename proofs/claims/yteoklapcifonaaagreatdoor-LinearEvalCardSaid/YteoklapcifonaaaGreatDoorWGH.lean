/- Eval, Holds in any environment. -/
import Derived.Test.YteoklapcifonaaaGreatDoorWGF
import Derived.Test.YteoklapcifonaaaGreatDoorWPD
namespace Go.Proofs.YteoklapcifonaaaGreatDoor
open Go.RowKit Nmx

/-- the value as a text, or none -/
def evT (E : Int × Rat) : ByteArray := if E.1 = 0 then TX E.2 else ⟨#[]⟩
def holdE (r : Int) (M : Option Int) (E : Int × Rat) : Bool := if E.1 = 0 then holdF r M E.2 else false
theorem evG_dx {d D : Nat} {w : World} {v : Value} {s : Int} {p : Rat} {cs : List (List UInt8 × Rat)} {es : List (List UInt8 × Int × Rat)} (h : LV w v s d p cs) (he : ∀ x ∈ es, EntOk D x.2) (hs : s = 2 ∨ s = 3) (hd : d ≤ 100) (hD : D ≤ 300) : DS 1800 (evG s (lkE es) p cs).2 := by
  obtain ⟨hg, dp⟩ := h.good;refine (evG_ds hs (fun n y => lkE_ok he) cs d p dp hg.ds).mono ?_;have h4 := can_len hg.can hg.nm;have h6 : cs.length * (d + D + 1) ≤ 4 * (d + D + 1) := Nat.mul_le_mul_right _ h4
  omega
theorem EG.ok {w : World} {v : Value} {D : Nat} {es : List (List UInt8 × Int × Rat)} (h : EG w v D es) : ∀ x ∈ es, EntOk D x.2 := let ⟨_, _, _, _, _, _, h3⟩ := h; h3
section
set_option maxRecDepth 100000
set_option maxHeartbeats 8000000
theorem linEvalG {d D : Nat} {w : World} {s : Int} {a1 : Option Addr} {n1 c1 : Nat} {t1 : ByteArray} {p : Rat} {cs : List (List UInt8 × Rat)} {ve : Value} {es : List (List UInt8 × Int × Rat)} (h : LV w (.agg #[.int .i64 s, .slice a1 n1 c1, .string t1]) s d p cs) (he : EG w ve D es) (hs : s = 2 ∨ s = 3) (hd : d ≤ 100) (hD : D ≤ 300) (hE : Env w) :
    Calls Tryz.prog 40 #[.agg #[.int .i64 s, .slice a1 n1 c1, .string t1], ve] w fun e w' => e = .returned (.tuple #[.string (evT (evG s (lkE es) p cs)), .int .i64 (evG s (lkE es) p cs).1]) ∧ Below w.heap.size w w' := by
  have hvl := fun W (hW : Below w.heap.size w W) => validL (h.far hW) hs (by omega) (hE.far hW)
  have hve := fun W (hW : Below w.heap.size w W) => validEnvG (by omega) W (he.far hW) (hE.far hW)
  have hev := fun W (hW : Below w.heap.size w W) => evalG_any (h.far hW) (he.far hW) hs hd hD (hE.far hW)
  have dx := evG_dx h he.ok hs hd hD;obtain ⟨ec, x, hx⟩ : ∃ a b, evG s (lkE es) p cs = (a, b) := ⟨_, _, rfl⟩
  rw [hx] at dx ⊢
  have hev' : ∀ W, Below w.heap.size w W → Calls Tryz.prog 93 #[.agg #[.int .i64 s, .slice a1 n1 c1, .string t1], ve] W fun e w' => ∃ v, e = .returned (.tuple #[v, .int .i64 ec]) ∧ RV w' v x ∧ Below W.heap.size W w' := fun W hW => by
    have := hev W hW;rw [hx] at this;exact this
  have hst : ∀ W v, Below w.heap.size w W → RV W v x → Calls Tryz.prog 94 #[v] W fun e w' => e = .returned (.string (TX x)) ∧ Below W.heap.size W w' := fun W v hW hv => ratString_any _ _ W hv (hE.far hW) (by have := Nmx.DS.parts (show DS 1800 x from dx); omega)
  have HVL := Lib.hid hvl;have HVE := Lib.hid hve;have HEV := Lib.hid hev';have HST := Lib.hid hst;have HB0 := Lib.hid (alloc_far w (.cells #[.int .i64 s, .slice a1 n1 c1, .string t1] 26));have HA := Lib.hid (heap_alloc_new w (.cells #[.int .i64 s, .slice a1 n1 c1, .string t1] 26));clear hvl hve hev hev' hst dx hx h he hE hs;show Calls Tryz.prog 40 #[.agg #[.int .i64 s, .slice a1 n1 c1, .string t1], ve] w fun e w' => e = .returned (.tuple #[.string (if ec = 0 then TX x else ⟨#[]⟩), .int .i64 ec]) ∧ Below w.heap.size w w'
  obtain ⟨tr, htr⟩ : ∃ t, TX x = t := ⟨_, rfl⟩
  rw [htr] at HST ⊢;clear htr
  go_enter Tryz.func40, Tryz.ntmps40
  go_wp2_with fail
  generalize w.alloc (.cells #[.int .i64 s, .slice a1 n1 c1, .string t1] 26) = w1 at *;refine (HVL.out _ HB0.out).mono ?_;rintro e w2 ⟨rfl, hb⟩;replace HB0 := Lib.hid (HB0.out.trans (hb.mono HB0.out.size));replace HA := Lib.hid ((hb.block _ (lt_of_heap HA.out)).trans HA.out);clear hb
  go_wp2_with fail
  refine (HVE.out _ HB0.out).mono ?_;rintro e w3 ⟨rfl, hb⟩;replace HB0 := Lib.hid (HB0.out.trans (hb.mono HB0.out.size));replace HA := Lib.hid ((hb.block _ (lt_of_heap HA.out)).trans HA.out);clear hb;have p0 := heap_cell HA.out 0;have p1 := heap_cell HA.out 1;have p2 := heap_cell HA.out 2
  go_wp2_with fail
  refine (HEV.out _ HB0.out).mono ?_;rintro e w4 ⟨v, rfl, hv, hb⟩;replace HB0 := Lib.hid (HB0.out.trans (hb.mono HB0.out.size));obtain ⟨s3, b3, ao3, n3, c3, s4, b4, ao4, n4, c4, rfl, -, -⟩ := rv_form hv;have hal := alloc_far w4 (.cells #[.int .i64 s3, .bool b3, .slice ao3 n3 c3, .int .i64 s4, .bool b4, .slice ao4 n4 c4] 85);have HV := Lib.hid (hv.far hal);replace HB0 := Lib.hid (HB0.out.trans (hal.mono HB0.out.size));clear hv hb hal p0 p1 p2 HA
  by_cases hec : ec = 0
  · subst hec
    go_wp2_with fail
    refine (HST.out _ _ HB0.out HV.out).mono ?_;rintro e w5 ⟨rfl, hb⟩;replace HB0 := Lib.hid (HB0.out.trans (hb.mono HB0.out.size));clear hb
    go_wp2
    go_ret2
    exact ⟨rfl, HB0.out⟩
  · have hb1 : (ec != 0) = true := by rw [bne_iff_ne]; exact hec
    have hb2 : decide (ec = 0) = false := decide_eq_false hec;have hb3 : (ec == 0) = false := by rw [beq_eq_false_iff_ne]; exact hec
    go_wp2
    go_ret2
    exact ⟨rfl, HB0.out⟩
theorem holdsG {d D : Nat} {w : World} {r s : Int} {a1 : Option Addr} {n1 c1 : Nat} {t1 : ByteArray} {p : Rat} {cs : List (List UInt8 × Rat)} {M : Option Int} {ve : Value} {es : List (List UInt8 × Int × Rat)} (h : LV w (.agg #[.int .i64 s, .slice a1 n1 c1, .string t1]) s d p cs) (hk : ConM r s d M) (he : EG w ve D es) (hd : d ≤ 100) (hD : D ≤ 300) (hE : Env w) :
    Calls Tryz.prog 44 #[.agg #[.int .i64 r, .int .i64 s, .slice a1 n1 c1, .string t1, .string (TXo M)], ve] w fun e w' => e = .returned (.tuple #[.bool (holdE r M (evG s (lkE es) p cs)), .int .i64 (evG s (lkE es) p cs).1]) ∧ Below w.heap.size w w' := by
  have hvl : ∀ W, Below w.heap.size w W → Calls Tryz.prog 31 #[.agg #[.int .i64 r, .int .i64 s, .slice a1 n1 c1, .string t1, .string (TXo M)]] W fun e w' => e = .returned (.bool true) ∧ Below W.heap.size W w' := fun W hW => by
    cases M with
    | none => exact validCmp (h.far hW) hk.1 hk.2 (by omega) (hE.far hW)
    | some m =>
      obtain ⟨rfl, hr, hm, hmd⟩ := hk;exact validDiv (h.far hW) hr hm (hmd.mono (by omega)) (by omega) (hE.far hW)
  have hve := fun W (hW : Below w.heap.size w W) => validEnvG (by omega) W (he.far hW) (hE.far hW)
  have hev := fun W (hW : Below w.heap.size w W) => evalG_any (h.far hW) (he.far hW) hk.sort hd hD (hE.far hW)
  have dx0 := evG_dx h he.ok hk.sort hd hD;obtain ⟨ec, x, hx⟩ : ∃ a b, evG s (lkE es) p cs = (a, b) := ⟨_, _, rfl⟩
  rw [hx] at dx0 ⊢;have dx : DS 2400 x := DS.mono (show DS 1800 x from dx0) (by decide)
  replace hev : ∀ W, Below w.heap.size w W → Calls Tryz.prog 93 #[.agg #[.int .i64 s, .slice a1 n1 c1, .string t1], ve] W fun e w' => ∃ v, e = .returned (.tuple #[v, .int .i64 ec]) ∧ RV w' v x ∧ Below W.heap.size W w' := fun W hW => by
    have := hev W hW;rw [hx] at this;exact this
  have HVL := Lib.hid hvl;have HVE := Lib.hid hve;have HEV := Lib.hid hev;have HDX := Lib.hid dx;have HE := Lib.hid hE;clear hvl hve hev hx dx dx0 h he hE
  by_cases hec : ec = 0
  rotate_left
  · have hb1 : (ec != 0) = true := by rw [bne_iff_ne]; exact hec
    have hb2 : decide (ec = 0) = false := decide_eq_false hec;have hb3 : (ec == 0) = false := by rw [beq_eq_false_iff_ne]; exact hec
    rw [show holdE r M (ec, x) = false from if_neg hec];show Calls Tryz.prog 44 #[.agg #[.int .i64 r, .int .i64 s, .slice a1 n1 c1, .string t1, .string (TXo M)], ve] w fun e w' => e = .returned (.tuple #[.bool false, .int .i64 ec]) ∧ Below w.heap.size w w'
    obtain ⟨tm, htm⟩ : ∃ t, TXo M = t := ⟨_, rfl⟩
    rw [htm] at HVL ⊢;have HBX := Lib.hid (⟨heap_alloc_new w _, alloc_far w _⟩ : HB w (w.alloc (.cells #[.int .i64 r, .int .i64 s, .slice a1 n1 c1, .string t1, .string tm] 39)) r s a1 n1 c1 t1 tm);clear htm hk hec
    go_enter Tryz.func44, Tryz.ntmps44
    go_wp2_with fail
    generalize w.alloc (.cells #[.int .i64 r, .int .i64 s, .slice a1 n1 c1, .string t1, .string tm] 39) = w1 at *;refine (HVL.out _ HBX.out.bel).mono ?_;rintro e w2 ⟨rfl, hb⟩;replace HBX := Lib.hid (HBX.out.far hb);clear hb
    go_wp2_with fail
    refine (HVE.out _ HBX.out.bel).mono ?_;rintro e w3 ⟨rfl, hb⟩;replace HBX := Lib.hid (HBX.out.far hb);clear hb;have p0 := heap_cell HBX.out.a 0;have p1 := heap_cell HBX.out.a 1;have p2 := heap_cell HBX.out.a 2;have p3 := heap_cell HBX.out.a 3;have p4 := heap_cell HBX.out.a 4;have hla := lt_of_heap HBX.out.a
    go_wp2_with fail
    refine (HEV.out _ HBX.out.bel).mono ?_;rintro e w4 ⟨v, rfl, hv, hb⟩;replace HBX := Lib.hid (HBX.out.far hb);obtain ⟨s3, b3, ao3, n3, c3, s4, b4, ao4, n4, c4, rfl, -, -⟩ := rv_form hv;have HB1 := Lib.hid (HBX.out.bel.trans ((alloc_far w4 (.cells #[.int .i64 s3, .bool b3, .slice ao3 n3 c3, .int .i64 s4, .bool b4, .slice ao4 n4 c4] 85)).mono HBX.out.bel.size));clear hv hb p0 p1 p2 p3 p4 hla
    go_wp2
    go_ret2
    exact ⟨rfl, HB1.out⟩
  subst hec;rw [show holdE r M (0, x) = holdF r M x from if_pos rfl];show Calls Tryz.prog 44 #[.agg #[.int .i64 r, .int .i64 s, .slice a1 n1 c1, .string t1, .string (TXo M)], ve] w fun e w' => e = .returned (.tuple #[.bool (holdF r M x), .int .i64 0]) ∧ Below w.heap.size w w'
  cases M with
  | none =>
    obtain ⟨hs, hr⟩ := hk;have hcm := fun W v (hv : RV W v x) => compares_any hv hr
    have HCM := Lib.hid hcm;have hal := alloc_far w (.cells #[.int .i64 r, .int .i64 s, .slice a1 n1 c1, .string t1, .string ⟨#[]⟩] 39);have HBX := Lib.hid (⟨heap_alloc_new w _, hal⟩ : HB w _ r s a1 n1 c1 t1 ⟨#[]⟩);clear hcm hal hs hr;show Calls Tryz.prog 44 #[.agg #[.int .i64 r, .int .i64 s, .slice a1 n1 c1, .string t1, .string ⟨#[]⟩], ve] w fun e w' => e = .returned (.tuple #[.bool (cmpF r x), .int .i64 0]) ∧ Below w.heap.size w w'
    change Hid (∀ W, Below w.heap.size w W → Calls Tryz.prog 31 #[.agg #[.int .i64 r, .int .i64 s, .slice a1 n1 c1, .string t1, .string ⟨#[]⟩]] W fun e w' => e = .returned (.bool true) ∧ Below W.heap.size W w') at HVL
    go_enter Tryz.func44, Tryz.ntmps44
    go_wp2_with fail
    generalize w.alloc (.cells #[.int .i64 r, .int .i64 s, .slice a1 n1 c1, .string t1, .string ⟨#[]⟩] 39) = w1 at *;refine (HVL.out _ HBX.out.bel).mono ?_;rintro e w2 ⟨rfl, hb⟩;replace HBX := Lib.hid (HBX.out.far hb);clear hb
    go_wp2_with fail
    refine (HVE.out _ HBX.out.bel).mono ?_;rintro e w3 ⟨rfl, hb⟩;replace HBX := Lib.hid (HBX.out.far hb);clear hb;have p0 := heap_cell HBX.out.a 0;have p1 := heap_cell HBX.out.a 1;have p2 := heap_cell HBX.out.a 2;have p3 := heap_cell HBX.out.a 3;have p4 := heap_cell HBX.out.a 4;have hla := lt_of_heap HBX.out.a
    go_wp2_with fail
    refine (HEV.out _ HBX.out.bel).mono ?_;rintro e w4 ⟨v, rfl, hv, hb⟩;replace HBX := Lib.hid (HBX.out.far hb);obtain ⟨s3, b3, ao3, n3, c3, s4, b4, ao4, n4, c4, rfl, -, -⟩ := rv_form hv;have HV := Lib.hid (hv.far (alloc_far w4 (.cells #[.int .i64 s3, .bool b3, .slice ao3 n3 c3, .int .i64 s4, .bool b4, .slice ao4 n4 c4] 85)));clear hv hb p0 p1 p2 p3 p4 hla;have p0 := heap_cell HBX.out.a 0;have p4 := heap_cell HBX.out.a 4;have hla := lt_of_heap HBX.out.a
    go_wp2_with fail
    replace HBX := Lib.hid (HBX.out.far (alloc_far w4 (.cells #[.int .i64 s3, .bool b3, .slice ao3 n3 c3, .int .i64 s4, .bool b4, .slice ao4 n4 c4] 85)));refine (HCM.out _ _ HV.out).mono ?_;rintro e w5 ⟨rfl, hb⟩;replace HBX := Lib.hid (HBX.out.far hb);clear hb p0 p4 hla
    go_wp2
    go_ret2
    exact ⟨rfl, HBX.out.bel⟩
  | some m =>
    obtain ⟨rfl, hr, hm, hmd⟩ := hk;have hn1 := tx_some (m : Rat);have hmm : ∀ W, Below w.heap.size w W → Calls Tryz.prog 56 #[.string (TX (m : Rat))] W (GetsQ (m : Rat) W) := fun W hW => mustT hmd (by omega) W (HE.out.far hW)
    have hdv : ∀ W u v, RV W u x → RV W v (m : Rat) → Calls Tryz.prog 97 #[u, v] W (GetsQ (x / (m : Rat)) W) := fun W u v hu hv => ratDiv_any _ _ x (m : Rat) W hu hv (ds_rs (k := 300) HDX.out (by omega)) (ds_rs (k := 60) hmd (by omega)) (by omega) (by rw [Rat.num_intCast]; omega)
    show Calls Tryz.prog 44 #[.agg #[.int .i64 r, .int .i64 2, .slice a1 n1 c1, .string t1, .string (TX (m : Rat))], ve] w fun e w' => e = .returned (.tuple #[.bool (decide ((x / (m : Rat)).den = 1) == (r == 4)), .int .i64 0]) ∧ Below w.heap.size w w'
    change Hid (∀ W, Below w.heap.size w W → Calls Tryz.prog 31 #[.agg #[.int .i64 r, .int .i64 2, .slice a1 n1 c1, .string t1, .string (TX (m : Rat))]] W fun e w' => e = .returned (.bool true) ∧ Below W.heap.size W w') at HVL;obtain ⟨tm, htm⟩ : ∃ t, TX (m : Rat) = t := ⟨_, rfl⟩
    rw [htm] at hn1 hmm HVL ⊢;have HMM := Lib.hid hmm;have HDV := Lib.hid hdv;have hn2 := hn1.1;have hn3 := hn1.2;have hal := alloc_far w (.cells #[.int .i64 r, .int .i64 2, .slice a1 n1 c1, .string t1, .string tm] 39);have HBX := Lib.hid (⟨heap_alloc_new w _, hal⟩ : HB w _ r 2 a1 n1 c1 t1 tm);obtain ⟨bz, hbz⟩ : ∃ b, decide ((x / (m : Rat)).den = 1) = b := ⟨_, rfl⟩
    have HBZ := Lib.hid hbz;rw [hbz];clear hbz hal hmm hdv htm hn1 hm hmd
    go_enter Tryz.func44, Tryz.ntmps44
    go_wp2_with fail
    generalize w.alloc (.cells #[.int .i64 r, .int .i64 2, .slice a1 n1 c1, .string t1, .string tm] 39) = w1 at *;refine (HVL.out _ HBX.out.bel).mono ?_;rintro e w2 ⟨rfl, hb⟩;replace HBX := Lib.hid (HBX.out.far hb);clear hb
    go_wp2_with fail
    refine (HVE.out _ HBX.out.bel).mono ?_;rintro e w3 ⟨rfl, hb⟩;replace HBX := Lib.hid (HBX.out.far hb);clear hb;have p0 := heap_cell HBX.out.a 0;have p1 := heap_cell HBX.out.a 1;have p2 := heap_cell HBX.out.a 2;have p3 := heap_cell HBX.out.a 3;have p4 := heap_cell HBX.out.a 4;have hla := lt_of_heap HBX.out.a
    go_wp2_with fail
    refine (HEV.out _ HBX.out.bel).mono ?_;rintro e w4 ⟨v, rfl, hv, hb⟩;replace HBX := Lib.hid (HBX.out.far hb);obtain ⟨s3, b3, ao3, n3, c3, s4, b4, ao4, n4, c4, rfl, -, -⟩ := rv_form hv;have hal := alloc_far w4 (.cells #[.int .i64 s3, .bool b3, .slice ao3 n3 c3, .int .i64 s4, .bool b4, .slice ao4 n4 c4] 85);have HV := Lib.hid (hv.far hal);have HN1 := Lib.hid (heap_alloc_new w4 (.cells #[.int .i64 s3, .bool b3, .slice ao3 n3 c3, .int .i64 s4, .bool b4, .slice ao4 n4 c4] 85));clear hv hb p0 p1 p2 p3 p4 hla;have p0 := heap_cell HBX.out.a 0;have p4 := heap_cell HBX.out.a 4;have hla := lt_of_heap HBX.out.a
    go_wp2_with fail
    replace HBX := Lib.hid (HBX.out.far hal);clear hal p0 p4 hla;generalize w4.alloc (.cells #[.int .i64 s3, .bool b3, .slice ao3 n3 c3, .int .i64 s4, .bool b4, .slice ao4 n4 c4] 85) = w5 at *;generalize w4.heap.size = N at *;refine add_region [[], [], [1], [1, 2], [0, 1, 2, 3], [0, 1, 2, 3, 4], [], [6], [6, 7], [0, 1, 2, 3, 4, 5, 6, 7, 8], [0, 1, 2, 3, 4, 5, 6, 7, 8, 9], [0, 1, 2, 3, 4, 5, 6, 7, 8, 9, 10]] (fun W => HB w W r 2 a1 n1 c1 t1 tm ∧ W.heap[N]? = some (.cells #[.int .i64 s3, .bool b3, .slice ao3 n3 c3, .int .i64 s4, .bool b4, .slice ao4 n4 c4] 85 (0, 0)) ∧ RV W (.agg #[.int .i64 s3, .bool b3, .slice ao3 n3 c3, .int .i64 s4, .bool b4, .slice ao4 n4 c4]) x) (fun _ => True) ?_
    iterate 3
      apply a_con
      · intro x; go_simp; done
      · intro x W R hW hF hR;have p0 := heap_cell hW.1.a 0;have p4 := heap_cell hW.1.a 4;have q0 := heap_cell hW.2.1 0;have q1 := heap_cell hW.2.1 1;have q2 := heap_cell hW.2.1 2;have q3 := heap_cell hW.2.1 3;have q4 := heap_cell hW.2.1 4;have q5 := heap_cell hW.2.1 5;clear hF;unfold addAt
        go_simp
        simp only [addUpon];exact hR _ (Below.refl _ _)
      simp only [Act.put, List.setIfInBounds_toArray, List.set_cons_zero, List.set_cons_succ]
    refine a_opq (fun v W => RV W v ((m : Rat))) (fun _ _ _ h hb => h.far hb) ?_ ?_ ?_
    · intro x; go_simp; done
    · intro x W R hW hF hR;clear hF;unfold addAt
      go_simp
      simp only [addUpon];refine (HMM.out W hW.1.bel).mono ?_;rintro e w' ⟨v, rfl, hv, hb⟩;exact ⟨v, rfl, hR _ _ hv hb⟩
    simp only [Act.put, List.setIfInBounds_toArray, List.set_cons_zero, List.set_cons_succ, List.length_cons, List.length_nil, Nat.zero_add, Nat.reduceAdd];refine a_opq (fun v W => RV W v (x / (m : Rat))) (fun _ _ _ h hb => h.far hb) ?_ ?_ ?_
    · intro x; go_simp; done
    · intro x W R hW hF hR;have hu := hF.1.2 rfl rfl rfl;simp only [AK.fact] at hu;clear hF;unfold addAt
      go_simp
      simp only [addUpon];refine (HDV.out W _ _ hW.2.2 hu).mono ?_;rintro e w' ⟨v, rfl, hv, hb⟩;exact ⟨v, rfl, hR _ _ hv hb⟩
    simp only [Act.put, List.setIfInBounds_toArray, List.set_cons_zero, List.set_cons_succ, List.length_cons, List.length_nil, Nat.zero_add, Nat.reduceAdd];apply a_con
    · intro x; go_simp; done
    · intro x W R hW hF hR;have hu := hF.1.2 rfl rfl rfl;simp only [AK.fact] at hu;clear hF;unfold addAt
      go_simp
      simp only [addUpon];refine (ratIsInt_any _ _ W hu).mono ?_;rintro e w' ⟨rfl, hb⟩;exact ⟨_, rfl, hR _ hb⟩
    simp only [Act.put, List.setIfInBounds_toArray, List.set_cons_zero, List.set_cons_succ]
    iterate 6
      apply a_con
      · intro x; go_simp; done
      · intro x W R hW hF hR;have p0 := heap_cell hW.1.a 0;have p4 := heap_cell hW.1.a 4;have q0 := heap_cell hW.2.1 0;have q1 := heap_cell hW.2.1 1;have q2 := heap_cell hW.2.1 2;have q3 := heap_cell hW.2.1 3;have q4 := heap_cell hW.2.1 4;have q5 := heap_cell hW.2.1 5;clear hF;unfold addAt
        go_simp
        simp only [addUpon];exact hR _ (Below.refl _ _)
      simp only [Act.put, List.setIfInBounds_toArray, List.set_cons_zero, List.set_cons_succ]
    refine a_nil (by kernel_rfl) (by kernel_rfl) (by kernel_rfl) (fun _ _ h hb => ⟨h.1.far hb, (hb.block _ (lt_of_heap h.2.1)).trans h.2.1, h.2.2.far hb⟩) (fun _ _ _ _ => trivial) (fun _ _ => trivial) (⟨HBX.out.far (Below.refl _ _).drew, HN1.out, HV.out.far (Below.refl _ _).drew⟩) ?_;intro x W hE hW hF hD;clear hD;have hc := hW rfl;have HBL := Lib.hid hc.1.bel;clear hE hF hW hc;rw [HBZ.out]
    go_wp2
    go_ret2
    exact ⟨rfl, HBL.out⟩
end
end Go.Proofs.YteoklapcifonaaaGreatDoor

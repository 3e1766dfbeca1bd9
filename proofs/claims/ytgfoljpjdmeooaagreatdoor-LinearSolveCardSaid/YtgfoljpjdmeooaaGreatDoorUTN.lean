/- The reference's SolveFor. -/
import Derived.Test.YtgfoljpjdmeooaaGreatDoorUTJ
import Derived.Test.YtgfoljpjdmeooaaGreatDoorUTF
import Derived.Test.YtgfoljpjdmeooaaGreatDoorUX
namespace Go.Proofs.YtgfoljpjdmeooaaGreatDoor
open Go.RowKit Nmx

theorem tx_neg_one : (⟨#[45, 49]⟩ : ByteArray) = TX (-1) := by decide +kernel
section
set_option maxRecDepth 100000
set_option maxHeartbeats 8000000
theorem refSolve_any {d : Nat} {w : World} {r s : Int} {a1 : Option Addr} {n1 c1 : Nat} {t1 : ByteArray} {p : Rat} {cs : List (List UInt8 × Rat)} {M : Option Int} (nm : List UInt8) (h : LV w (.agg #[.int .i64 s, .slice a1 n1 c1, .string t1]) s d p cs) (hk : ConM r s d M) (hd : d ≤ 1000) :
    Calls Tryz.prog 36 #[.agg #[.int .i64 r, .int .i64 s, .slice a1 n1 c1, .string t1, .string (TXo M)], .string ⟨nm.toArray⟩] w (SolvePost r s d p cs nm w) := by
  have hvl : ∀ W, Below w.heap.size w W → Calls Tryz.prog 28 #[.agg #[.int .i64 r, .int .i64 s, .slice a1 n1 c1, .string t1, .string (TXo M)]] W fun e w' => e = .returned (.bool true) ∧ Below W.heap.size W w' := fun W hW => refValidC (h.far hW) hk (by omega)
  have hco : ∀ W, Below w.heap.size w W → Calls Tryz.prog 67 #[.agg #[.int .i64 s, .slice a1 n1 c1, .string t1], .string ⟨nm.toArray⟩] W fun e w' => e = .returned (.string (TX (cof cs nm))) ∧ Below W.heap.size W w' := fun W hW => refCoefOf_any nm (h.far hW)
  have hwi : ∀ W, Below w.heap.size w W → Calls Tryz.prog 68 #[.agg #[.int .i64 s, .slice a1 n1 c1, .string t1], .string ⟨nm.toArray⟩] W (GetsL s d p (fun n => if n = nm then 0 else cof cs n) W) := fun W hW => refWithout_any nm (h.far hW)
  have hnm : ∀ W, Calls Tryz.prog 60 #[.string ⟨nm.toArray⟩] W fun e w' => e = .returned (.bool (nameF nm)) ∧ Below W.heap.size W w' := fun W => by
    have := refName_any ⟨nm.toArray⟩ W
    rwa [toList_mk] at this
  have hdk : DS d (cof cs nm) := cof_ds h.good.1 nm
  have hdv : (cof cs nm).num ≠ 0 → ∀ W, Calls Tryz.prog 18 #[.string ⟨#[45, 49]⟩, .string (TX (cof cs nm))] W (GetsT (-1 / cof cs nm) W) := fun h0 W => by
    rw [tx_neg_one]
    exact refDivT (DS.one (d := 1) (by decide)).neg hdk (by omega) (by omega) h0 W
  have hdf : (cof cs nm).num ≠ 0 → DS (d + 1) (-1 / cof cs nm) := fun h0 => by
    have := ((DS.one (d := 1) (by decide)).neg).div hdk h0
    rwa [Nat.add_comm] at this
  have HVL := Lib.hid hvl
  have HCO := Lib.hid hco
  have HWI := Lib.hid hwi
  have HNM := Lib.hid hnm
  have HDV := Lib.hid hdv
  have HDF := Lib.hid hdf
  have HKS : Hid (s = 2 ∨ s = 3) := Lib.hid hk.sort
  have htz := tx_zero_test (cof cs nm)
  generalize TXo M = tm at *
  obtain ⟨m1, m2, mb⟩ := newL2 w (.cells #[.int .i64 r, .int .i64 s, .slice a1 n1 c1, .string t1, .string tm] 39) (.cells #[.int .i64 0, .slice none 0 0, .string ⟨#[]⟩] 26)
  have HV := Lib.hid (⟨m1, m2, mb⟩ : SV w _ r s a1 n1 c1 t1 tm)
  obtain ⟨tn, htn⟩ : ∃ t : ByteArray, ⟨nm.toArray⟩ = t := ⟨_, rfl⟩
  rw [htn] at HCO HWI HNM ⊢
  obtain ⟨tk, htk⟩ : ∃ t, TX (cof cs nm) = t := ⟨_, rfl⟩
  rw [htk] at HCO HDV htz
  clear htn htk hvl hco hwi hnm hdk hdv hdf h hk m1 m2 mb
  go_enter Tryz.func36, Tryz.ntmps36
  go_wp2_with fail
  generalize (w.alloc (.cells #[.int .i64 r, .int .i64 s, .slice a1 n1 c1, .string t1, .string tm] 39)).alloc (.cells #[.int .i64 0, .slice none 0 0, .string ⟨#[]⟩] 26) = w1 at *
  refine (HVL.out w1 HV.out.bel).mono ?_
  rintro e w2 ⟨rfl, hb⟩
  replace HV := Lib.hid (HV.out.far hb)
  clear hb
  go_wp2_with fail
  refine (HNM.out w2).mono ?_
  rintro e w3 ⟨rfl, hb⟩
  replace HV := Lib.hid (HV.out.far hb)
  clear hb
  by_cases hn : nameF nm = false
  · have HN := Lib.hid hn
    rw [hn]
    have x0 := heap_cell HV.out.r 0
    have x1 := heap_cell HV.out.r 1
    have x2 := heap_cell HV.out.r 2
    have fr := fun i => heap_fz HV.out.r i
    clear hn
    go_wp2_with fail
    refine end_linE rfl rfl rfl rfl (set3_heap HV.out.r) ?_
    exact .inl ⟨HN.out, rfl, ((HV.out.bel.setCell (show w.heap.size ≤ w.heap.size + 1 by omega) _).setCell (show w.heap.size ≤ w.heap.size + 1 by omega) _).setCell (show w.heap.size ≤ w.heap.size + 1 by omega) _⟩
  have hn1 : nameF nm = true := by simpa using hn
  have HN := Lib.hid hn1
  rw [hn1]
  clear hn hn1
  have x1 := heap_cell HV.out.a 1
  have x2 := heap_cell HV.out.a 2
  have x3 := heap_cell HV.out.a 3
  go_wp2_with fail
  refine (HCO.out w3 HV.out.bel).mono ?_
  rintro e w4 ⟨rfl, hb⟩
  replace HV := Lib.hid (HV.out.far hb)
  clear hb x1 x2 x3
  have y0 := heap_cell HV.out.a 0
  have x0 := heap_cell HV.out.r 0
  have x1 := heap_cell HV.out.r 1
  have x2 := heap_cell HV.out.r 2
  have fr := fun i => heap_fz HV.out.r i
  by_cases hr : r = 3
  case neg =>
    have hr1 : (r == 3) = false := by rw [beq_eq_false_iff_ne]; exact hr
    have hr2 : decide (r = 3) = false := decide_eq_false hr
    have HR := Lib.hid hr
    have hr3 : (r != 3) = true := by rw [bne, hr1]; rfl
    clear hr htz
    go_wp2_with fail
    refine end_linE rfl rfl rfl rfl (set3_heap HV.out.r) ?_
    exact .inr (.inl ⟨HN.out, .inl HR.out, rfl, ((HV.out.bel.setCell (show w.heap.size ≤ w.heap.size + 1 by omega) _).setCell (show w.heap.size ≤ w.heap.size + 1 by omega) _).setCell (show w.heap.size ≤ w.heap.size + 1 by omega) _⟩)
  subst hr
  by_cases hz : cof cs nm = 0
  · have HZ := Lib.hid hz
    rw [decide_eq_true (by rw [hz]; rfl)] at htz
    clear hz
    go_wp2_with fail
    refine end_linE rfl rfl rfl rfl (set3_heap HV.out.r) ?_
    exact .inr (.inl ⟨HN.out, .inr HZ.out, rfl, ((HV.out.bel.setCell (show w.heap.size ≤ w.heap.size + 1 by omega) _).setCell (show w.heap.size ≤ w.heap.size + 1 by omega) _).setCell (show w.heap.size ≤ w.heap.size + 1 by omega) _⟩)
  have hzn : (cof cs nm).num ≠ 0 := fun e => hz (Rat.num_eq_zero.1 e)
  have HZ := Lib.hid hz
  rw [decide_eq_false hzn] at htz
  replace HDV := Lib.hid (HDV.out hzn)
  replace HDF := Lib.hid (HDF.out hzn)
  clear hz hzn x0 x1 x2 fr
  have x1 := heap_cell HV.out.a 1
  have x2 := heap_cell HV.out.a 2
  have x3 := heap_cell HV.out.a 3
  go_wp2_with fail
  refine (HWI.out w4 HV.out.bel).mono ?_
  rintro e w5 ⟨rs, v, rfl, hl, hf, hb⟩
  have HL := Lib.hid hl
  have HF := Lib.hid hf
  replace HV := Lib.hid (HV.out.far hb)
  obtain ⟨a4, n4, c4, t4, rfl⟩ := lvOpen hl
  clear hl hf hb x1 x2 x3 y0
  go_wp2_with fail
  refine (HDV.out w5).mono ?_
  rintro e w6 hg
  obtain ⟨rfl, hb⟩ := hg
  replace HV := Lib.hid (HV.out.far hb)
  replace HL := Lib.hid (HL.out.far hb)
  clear hb
  go_wp2_with fail
  refine (timesR HL.out HDF.out (by omega) (by omega)).mono ?_
  rintro e w7 ⟨rs2, v, rfl, hl, hf, hb⟩
  replace HV := Lib.hid (HV.out.far hb)
  have hl2 : LV w7 v s (3 * d + 4) (solC p cs nm) rs2 := hl.mono (by omega)
  have hcf : ∀ n, cof rs2 n = solF cs nm n := fun n => by
    have e1 := hf n
    have e2 := HF.out n
    dsimp only at e1 e2
    rw [e1, e2]
    rfl
  have HCF := Lib.hid hcf
  obtain ⟨ao, n, c, tx, rfl⟩ := lvOpen hl2
  have hal : Below w7.heap.size w7 (w7.alloc (.cells #[.int .i64 s, .slice ao n c, .string tx] 26)) := (Below.refl _ _).alloc (Nat.le_refl _) _
  replace HV := Lib.hid (HV.out.far hal)
  have HLV := Lib.hid (hl2.far hal)
  have HB := Lib.hid (heap_alloc_new w7 (.cells #[.int .i64 s, .slice ao n c, .string tx] 26))
  have HWF : Hid (wholeF (solC p cs nm) rs2 = true ↔ wholeP (solC p cs nm) (solF cs nm)) := Lib.hid (wholeF_iff hl2.good.1.can hcf)
  clear hl hf hb hl2 hcf hal HL HF
  go_upto_region 7 with fail
  generalize w7.alloc (.cells #[.int .i64 s, .slice ao n c, .string tx] 26) = w8 at *
  generalize w7.heap.size = L at *
  have x0 := heap_cell HV.out.r 0
  have x1 := heap_cell HV.out.r 1
  have x2 := heap_cell HV.out.r 2
  have fr := fun i => heap_fz HV.out.r i
  have l0 := heap_cell HB.out 0
  have l1 := heap_cell HB.out 1
  have l2 := heap_cell HB.out 2
  rcases HKS.out with hs | hs
  case inr =>
    subst hs
    go_wp2_with fail
    refine end_linE rfl rfl rfl rfl (set3_heap HV.out.r) ?_
    exact .inr (.inr (.inr ⟨HN.out, rfl, HZ.out, fun h => absurd h (by decide), rs2, _, rfl, HLV.out.but HV.out.r (by decide) (fun g hg => set3_other _ _ _ hg), HCF.out, ((HV.out.bel.setCell (show w.heap.size ≤ w.heap.size + 1 by omega) _).setCell (show w.heap.size ≤ w.heap.size + 1 by omega) _).setCell (show w.heap.size ≤ w.heap.size + 1 by omega) _⟩))
  subst hs
  go_wp2_with fail
  refine (refWhole_any HLV.out (by omega)).mono ?_
  rintro e w9 ⟨rfl, hb⟩
  replace HV := Lib.hid (HV.out.far hb)
  replace HLV := Lib.hid (HLV.out.far hb)
  replace HB := Lib.hid ((hb.block _ (lt_of_heap HB.out)).trans HB.out)
  obtain ⟨b, hwb⟩ : ∃ b, wholeF (solC p cs nm) rs2 = b := ⟨_, rfl⟩
  rw [hwb] at HWF ⊢
  clear hb hwb x0 x1 x2 fr l0 l1 l2
  have x0 := heap_cell HV.out.r 0
  have x1 := heap_cell HV.out.r 1
  have x2 := heap_cell HV.out.r 2
  have fr := fun i => heap_fz HV.out.r i
  have l0 := heap_cell HB.out 0
  have l1 := heap_cell HB.out 1
  have l2 := heap_cell HB.out 2
  cases b
  · have hno : ¬ wholeP (solC p cs nm) (solF cs nm) := fun h => Bool.false_ne_true (HWF.out.2 h)
    have HNO := Lib.hid hno
    clear HWF hno
    go_wp2_with fail
    refine end_linE rfl rfl rfl rfl (set3_heap HV.out.r) ?_
    exact .inr (.inr (.inl ⟨HN.out, rfl, HZ.out, rfl, HNO.out, rfl, ((HV.out.bel.setCell (show w.heap.size ≤ w.heap.size + 1 by omega) _).setCell (show w.heap.size ≤ w.heap.size + 1 by omega) _).setCell (show w.heap.size ≤ w.heap.size + 1 by omega) _⟩))
  · have hyes : wholeP (solC p cs nm) (solF cs nm) := HWF.out.1 rfl
    have HYES := Lib.hid hyes
    clear HWF hyes
    go_wp2_with fail
    refine end_linE rfl rfl rfl rfl (set3_heap HV.out.r) ?_
    exact .inr (.inr (.inr ⟨HN.out, rfl, HZ.out, fun _ => HYES.out, rs2, _, rfl, HLV.out.but HV.out.r (by decide) (fun g hg => set3_other _ _ _ hg), HCF.out, ((HV.out.bel.setCell (show w.heap.size ≤ w.heap.size + 1 by omega) _).setCell (show w.heap.size ≤ w.heap.size + 1 by omega) _).setCell (show w.heap.size ≤ w.heap.size + 1 by omega) _⟩))
end
end Go.Proofs.YtgfoljpjdmeooaaGreatDoor
/- Replace. -/
namespace Go.Proofs.YtgfoljpjdmeooaaGreatDoor
open Go.RowKit Nmx

section
set_option maxRecDepth 100000
set_option maxHeartbeats 8000000
theorem replace_any {d : Nat} {w : World} {v1 v2 : Value} {s : Int} {p q : Rat} {cs bs : List (List UInt8 × Rat)} (nm : List UInt8) (h1 : LV w v1 s d p cs) (h2 : LV w v2 s d q bs) (hn : nameF nm = true) (hs : s = 2 ∨ s = 3) (hd : d ≤ 700) (hE : Env w) :
    Calls Tryz.prog 31 #[v1, .string ⟨nm.toArray⟩, v2] w (GetsLE s (3 * d + 1) (p + cof cs nm * q) (fun n => (if n = nm then 0 else cof cs n) + cof cs nm * cof bs n) w) := by
  have hv1 : ∀ W, Below w.heap.size w W → Calls Tryz.prog 25 #[v1] W fun e w' => e = .returned (.bool true) ∧ Below W.heap.size W w' := fun W hW => validL (h1.far hW) hs (by omega) (hE.far hW)
  have hv2 : ∀ W, Below w.heap.size w W → Calls Tryz.prog 25 #[v2] W fun e w' => e = .returned (.bool true) ∧ Below W.heap.size W w' := fun W hW => validL (h2.far hW) hs (by omega) (hE.far hW)
  have hsp : ∀ W, Below w.heap.size w W → Calls Tryz.prog 66 #[v1, .string ⟨nm.toArray⟩] W (GetsKL (cof cs nm) s d p (fun n => if n = nm then 0 else cof cs n) W) := fun W hW => split_any nm (h1.far hW) (by omega) (hE.far hW)
  have hnm : ∀ W, Calls Tryz.prog 56 #[.string ⟨nm.toArray⟩] W fun e w' => e = .returned (.bool true) ∧ w' = W := fun W => by
    have := isName_any ⟨nm.toArray⟩ W
    rwa [toList_mk, hn] at this
  have hdk : DS d (cof cs nm) := cof_ds h1.good.1 nm
  have hcb : ∀ W u v rs, Below w.heap.size w W → LV W v s d p rs → (∀ n, cof rs n = if n = nm then 0 else cof cs n) → RV W u (cof cs nm) → Calls Tryz.prog 39 #[v, v2, u] W (GetsL s (3 * d + 1) (p + cof cs nm * q) (fun n => (if n = nm then 0 else cof cs n) + cof cs nm * cof bs n) W) := fun W u v rs hW hv hf hu => by
    refine (combineL hv (h2.far hW) hu hdk hd (hE.far hW)).mono fun e w' ⟨rs', v', g1, g2, g3, g4⟩ => ⟨rs', v', g1, g2, fun n => ?_, g4⟩
    have e1 := g3 n
    have e2 := hf n
    dsimp only at e1 e2 ⊢
    rw [e1, e2]
  obtain ⟨a1, n1, c1, t1, rfl⟩ := lvOpen h1
  obtain ⟨a2, n2, c2, t2, rfl⟩ := lvOpen h2
  obtain ⟨m1, m2, m3, mb⟩ := newL3 w (.cells #[.int .i64 s, .slice a1 n1 c1, .string t1] 26) (.cells #[.int .i64 s, .slice a2 n2 c2, .string t2] 26) (.cells #[.int .i64 0, .slice none 0 0, .string ⟨#[]⟩] 26)
  have HK := Lib.hid (⟨m1, m2, m3, mb⟩ : AB w _ s s a1 n1 c1 t1 a2 n2 c2 t2)
  have HV1 := Lib.hid hv1
  have HV2 := Lib.hid hv2
  have HCB := Lib.hid hcb
  have HSP := Lib.hid hsp
  have HNM := Lib.hid hnm
  obtain ⟨tn, htn⟩ : ∃ t : ByteArray, ⟨nm.toArray⟩ = t := ⟨_, rfl⟩
  rw [htn] at HSP HNM ⊢
  clear m1 m2 m3 mb hv1 hv2 hcb hE hsp hnm hdk h1 h2 htn hn hs
  go_enter Tryz.func31, Tryz.ntmps31
  go_wp2_with fail
  generalize (((w.alloc (.cells #[.int .i64 s, .slice a1 n1 c1, .string t1] 26)).alloc (.cells #[.int .i64 s, .slice a2 n2 c2, .string t2] 26)).alloc (.cells #[.int .i64 0, .slice none 0 0, .string ⟨#[]⟩] 26)) = w3 at *
  refine (HV1.out _ HK.out.bel).mono ?_
  rintro e w4 ⟨rfl, hb⟩
  replace HK := Lib.hid (HK.out.far hb)
  clear hb
  have q0 := heap_cell HK.out.b 0
  have q1 := heap_cell HK.out.b 1
  have q2 := heap_cell HK.out.b 2
  go_wp2_with fail
  refine (HV2.out _ HK.out.bel).mono ?_
  rintro e w5 ⟨rfl, hb⟩
  replace HK := Lib.hid (HK.out.far hb)
  clear hb q0 q1 q2
  go_wp2_with fail
  refine (HNM.out w5).mono ?_
  rintro e w6 ⟨rfl, rfl⟩
  have p0 := heap_cell HK.out.a 0
  have p1 := heap_cell HK.out.a 1
  have p2 := heap_cell HK.out.a 2
  have q0 := heap_cell HK.out.b 0
  go_wp2_with fail
  refine (HSP.out w6 HK.out.bel).mono ?_
  rintro e w7 ⟨rs, u, v, rfl, hu, hv, hf, hb⟩
  replace HK := Lib.hid (HK.out.far hb)
  have HU := Lib.hid hu
  have HVV := Lib.hid hv
  have HF := Lib.hid hf
  obtain ⟨s1, b1, a3, n3, c3, s2, b2, a4, n4, c4, rfl, -⟩ := rv_form hu
  obtain ⟨a5, n5, c5, t5, rfl⟩ := lvOpen hv
  have hal1 : Below w7.heap.size w7 (w7.alloc (.cells #[.int .i64 s1, .bool b1, .slice a3 n3 c3, .int .i64 s2, .bool b2, .slice a4 n4 c4] 72)) := (Below.refl _ _).alloc (Nat.le_refl _) _
  have hal := hal1.alloc hal1.size (.cells #[.int .i64 s, .slice a5 n5 c5, .string t5] 26)
  replace HK := Lib.hid (HK.out.far hal)
  replace HU := Lib.hid (HU.out.far hal)
  replace HVV := Lib.hid (HVV.out.far hal)
  have HX : Hid (((w7.alloc (.cells #[.int .i64 s1, .bool b1, .slice a3 n3 c3, .int .i64 s2, .bool b2, .slice a4 n4 c4] 72)).alloc (.cells #[.int .i64 s, .slice a5 n5 c5, .string t5] 26)).heap[w7.heap.size]? = some (.cells #[.int .i64 s1, .bool b1, .slice a3 n3 c3, .int .i64 s2, .bool b2, .slice a4 n4 c4] 72 (0, 0))) := Lib.hid (heap_al (heap_alloc_new _ _) _)
  have HY : Hid (((w7.alloc (.cells #[.int .i64 s1, .bool b1, .slice a3 n3 c3, .int .i64 s2, .bool b2, .slice a4 n4 c4] 72)).alloc (.cells #[.int .i64 s, .slice a5 n5 c5, .string t5] 26)).heap[w7.heap.size + 1]? = some (.cells #[.int .i64 s, .slice a5 n5 c5, .string t5] 26 (0, 0))) := Lib.hid (by
    have := heap_alloc_new (w7.alloc (.cells #[.int .i64 s1, .bool b1, .slice a3 n3 c3, .int .i64 s2, .bool b2, .slice a4 n4 c4] 72)) (.cells #[.int .i64 s, .slice a5 n5 c5, .string t5] 26)
    simpa using this)
  clear hu hv hf hb hal hal1 p0 p1 p2 q0
  go_upto_region 6 with fail
  generalize (w7.alloc (.cells #[.int .i64 s1, .bool b1, .slice a3 n3 c3, .int .i64 s2, .bool b2, .slice a4 n4 c4] 72)).alloc (.cells #[.int .i64 s, .slice a5 n5 c5, .string t5] 26) = w8 at *
  generalize w7.heap.size = K at *
  have z0 := heap_cell HX.out 0
  have z1 := heap_cell HX.out 1
  have z2 := heap_cell HX.out 2
  have z3 := heap_cell HX.out 3
  have z4 := heap_cell HX.out 4
  have z5 := heap_cell HX.out 5
  have y0 := heap_cell HY.out 0
  have y1 := heap_cell HY.out 1
  have y2 := heap_cell HY.out 2
  have q0 := heap_cell HK.out.b 0
  have q1 := heap_cell HK.out.b 1
  have q2 := heap_cell HK.out.b 2
  go_wp2_with fail
  refine (HCB.out w8 _ _ rs HK.out.bel HVV.out HF.out HU.out).mono ?_
  rintro e w9 ⟨rs2, v, rfl, hl, hf, hb⟩
  replace HK := Lib.hid (HK.out.far hb)
  have HLV := Lib.hid hl
  have HCF := Lib.hid hf
  obtain ⟨ao, n, c, tx, rfl⟩ := lvOpen hl
  clear z0 z1 z2 z3 z4 z5 y0 y1 y2 q0 q1 q2 hl hf hb
  have x0 := heap_cell HK.out.r 0
  have x1 := heap_cell HK.out.r 1
  have x2 := heap_cell HK.out.r 2
  have fr := fun i => heap_fz HK.out.r i
  go_wp2_with fail
  refine end_linE rfl rfl rfl rfl (set3_heap HK.out.r) ?_
  exact ⟨rs2, _, rfl, HLV.out.but HK.out.r (by decide) (fun g hg => set3_other _ _ _ hg), HCF.out, ((HK.out.bel.setCell (show w.heap.size ≤ w.heap.size + 2 by omega) _).setCell (show w.heap.size ≤ w.heap.size + 2 by omega) _).setCell (show w.heap.size ≤ w.heap.size + 2 by omega) _⟩
end
end Go.Proofs.YtgfoljpjdmeooaaGreatDoor
/- LinearSolve: plain facts and what both solvers hand back. -/
namespace Go.Proofs.YtgfoljpjdmeooaaGreatDoor
open Go.RowKit Nmx

open Classical in
/-- the error of a solver of equations -/
noncomputable def solE (r s : Int) (p : Rat) (cs : List (List UInt8 × Rat)) (nm : List UInt8) : Int :=
  if nameF nm = false then 1 else if r ≠ 3 ∨ cof cs nm = 0 then 8 else if s = 2 ∧ ¬ wholeP (solC p cs nm) (solF cs nm) then 8 else 0
theorem solve_open {r s : Int} {d : Nat} {p : Rat} {cs : List (List UInt8 × Rat)} {nm : List UInt8} {w : World} {e : Ending} {w' : World} (h : SolvePost r s d p cs nm w e w') :
    (solE r s p cs nm ≠ 0 ∧ e = .returned (.tuple #[zeroLV, .int .i64 (solE r s p cs nm)]) ∧ Below w.heap.size w w') ∨
    (solE r s p cs nm = 0 ∧ nameF nm = true ∧ cof cs nm ≠ 0 ∧ GetsLE s (3 * d + 4) (solC p cs nm) (solF cs nm) w e w') := by
  rcases h with ⟨h1, h2, h3⟩ | ⟨h1, h2, h3, h4⟩ | ⟨h1, h2, h3, h4, h5, h6, h7⟩ | ⟨h1, h2, h3, h4, h5⟩
  · have e1 : solE r s p cs nm = 1 := by unfold solE; rw [if_pos h1]
    exact .inl ⟨by rw [e1]; decide, by rw [e1]; exact h2, h3⟩
  · have e1 : solE r s p cs nm = 8 := by unfold solE; rw [if_neg (by rw [h1]; decide), if_pos h2]
    exact .inl ⟨by rw [e1]; decide, by rw [e1]; exact h3, h4⟩
  · have e1 : solE r s p cs nm = 8 := by unfold solE; rw [if_neg (by rw [h1]; decide), if_neg (fun h => h.elim (fun h => h h2) h3), if_pos ⟨h4, h5⟩]
    exact .inl ⟨by rw [e1]; decide, by rw [e1]; exact h6, h7⟩
  · have e1 : solE r s p cs nm = 0 := by unfold solE; rw [if_neg (by rw [h1]; decide), if_neg (fun h => h.elim (fun h => h h2) h3), if_neg (fun h => h.2 (h4 h.1))]
    exact .inr ⟨e1, h1, h3, h5⟩
theorem sol_k {k : Rat} (hk : k ≠ 0) (x : Rat) : k * (-1 / k * x) = -x := by
  rw [← Rat.mul_assoc, Rat.div_def, Rat.mul_comm k, Rat.mul_assoc (-1), Rat.inv_mul_cancel _ hk, Rat.mul_one, Rat.neg_mul, Rat.one_mul]
theorem sol_c {p : Rat} {cs : List (List UInt8 × Rat)} {nm : List UInt8} (hk : cof cs nm ≠ 0) : p + cof cs nm * solC p cs nm = 0 := by
  unfold solC
  rw [sol_k hk]
  exact Rat.add_neg_cancel p
theorem sol_f {cs : List (List UInt8 × Rat)} {nm : List UInt8} (hk : cof cs nm ≠ 0) (n : List UInt8) : (if n = nm then 0 else cof cs n) + cof cs nm * solF cs nm n = 0 := by
  unfold solF
  rw [sol_k hk]
  exact Rat.add_neg_cancel _
theorem can_zero {l : List (List UInt8 × Rat)} (hc : Can ltB l) (h : ∀ n, cof l n = 0) : l = [] := by
  cases l with
  | nil => rfl
  | cons x l => exact absurd (h x.1) (by
      have := cof_at hc (i := 0) (by simp) (n := x.1) rfl
      rw [this]
      exact can_nz hc _ (List.getElem_mem (by simp)))
theorem sameLL {d e : Nat} {w : World} {v u : Value} {s : Int} {c : Rat} {cs bs : List (List UInt8 × Rat)} (h1 : LV w v s d c cs) (h2 : LV w u s e c bs) (hf : ∀ n, cof cs n = cof bs n) :
    Calls Tryz.prog 15 #[v, u] w fun e w' => e = .returned (.bool true) ∧ Below w.heap.size w w' := by
  obtain ⟨a1, g1, o1, c1, rfl, hC1, -, hg1, -⟩ := h1
  obtain ⟨a2, g2, o2, c2, rfl, hC2, -, hg2, -⟩ := h2
  obtain rfl : cs = bs := can_ext ord_ltB _ _ hg1.can hg2.can hf
  exact same_ok w s cs (TX c) a1 g1 o1 c1 a2 g2 o2 c2 hC1 hC2
theorem sameZ (w : World) : Calls Tryz.prog 15 #[zeroLV, zeroLV] w fun e w' => e = .returned (.bool true) ∧ Below w.heap.size w w' :=
  have h : CSl w none 0 0 0 [] := ⟨Nat.le_refl _, by omega, fun h => by omega, fun i hi => absurd hi (by simp), fun i hi => absurd hi (by simp)⟩
  same_ok w 0 [] ⟨#[]⟩ none 0 0 0 none 0 0 0 h h
end Go.Proofs.YtgfoljpjdmeooaaGreatDoor
/- LinearSolve's walk. -/
namespace Go.Proofs.YtgfoljpjdmeooaaGreatDoor
open Go.RowKit Nmx

/-- what a solver of equations hands back: an error, or the solution -/
def SolV (E s : Int) (q : Rat) (cs : List (List UInt8 × Rat)) (nm : List UInt8) (w : World) (v : Value) : Prop :=
  (E ≠ 0 ∧ v = zeroLV) ∨ (E = 0 ∧ nameF nm = true ∧ cof cs nm ≠ 0 ∧ ∃ rs, LV w v s 82 (solC q cs nm) rs ∧ ∀ n, cof rs n = solF cs nm n)
theorem SolV.far {E s : Int} {q : Rat} {cs : List (List UInt8 × Rat)} {nm : List UInt8} {w w' : World} {v : Value} (h : SolV E s q cs nm w v) (hb : Below w.heap.size w w') : SolV E s q cs nm w' v :=
  h.imp id fun ⟨h1, h2, h3, rs, h4, h5⟩ => ⟨h1, h2, h3, rs, h4.far hb, h5⟩
theorem solve_open2 {r s : Int} {p : Rat} {cs : List (List UInt8 × Rat)} {nm : List UInt8} {w : World} {e : Ending} {w' : World} (h : SolvePost r s 26 p cs nm w e w') :
    ∃ s1 a1 n1 c1 x1, e = .returned (.tuple #[.agg #[.int .i64 s1, .slice a1 n1 c1, .string x1], .int .i64 (solE r s p cs nm)]) ∧ Below w.heap.size w w' ∧ SolV (solE r s p cs nm) s p cs nm w' (.agg #[.int .i64 s1, .slice a1 n1 c1, .string x1]) := by
  rcases solve_open h with ⟨h1, h2, h3⟩ | ⟨h1, h2, h3, rs, v, h4, h5, h6, h7⟩
  · exact ⟨_, _, _, _, _, h2, h3, .inl ⟨h1, rfl⟩⟩
  · obtain ⟨a1, n1, c1, x1, rfl⟩ := lvOpen h5
    exact ⟨_, _, _, _, _, by rw [h4, h1], h7, .inr ⟨h1, h2, h3, rs, h5.mono (by decide), h6⟩⟩
theorem sameV {E s : Int} {q : Rat} {cs : List (List UInt8 × Rat)} {nm : List UInt8} {w : World} {v u : Value} (h1 : SolV E s q cs nm w v) (h2 : SolV E s q cs nm w u) :
    Calls Tryz.prog 15 #[v, u] w fun e w' => e = .returned (.bool true) ∧ Below w.heap.size w w' := by
  rcases h1 with ⟨e1, rfl⟩ | ⟨e1, -, -, rs, l1, f1⟩
  · rcases h2 with ⟨-, rfl⟩ | ⟨e2, -⟩
    · exact sameZ w
    · exact absurd e2 e1
  · rcases h2 with ⟨e2, -⟩ | ⟨-, -, -, bs, l2, f2⟩
    · exact absurd e1 e2
    · exact sameLL l1 l2 fun n => (f1 n).trans (f2 n).symm
theorem five (t : ByteArray) (j : Nat) (h : j < 5) : ∃ tv, (#[Value.string ⟨#[117]⟩, .string ⟨#[118]⟩, .string ⟨#[120]⟩, .string ⟨#[121]⟩, .string t] : Array Value)[j]? = some (.string tv) := by
  match j, h with
  | 0, _ => exact ⟨_, rfl⟩
  | 1, _ => exact ⟨_, rfl⟩
  | 2, _ => exact ⟨_, rfl⟩
  | 3, _ => exact ⟨_, rfl⟩
  | 4, _ => exact ⟨_, rfl⟩
theorem set04 {w : World} {T : Nat} {x0 x1 x2 x3 x4 y0 y4 : Value} {t : TypeId} (h : w.heap[T]? = some (.cells #[x0, x1, x2, x3, x4] t (0, 0))) : ((w.setCell ⟨T, 0, none⟩ y0).setCell ⟨T, 4, none⟩ y4).heap[T]? = some (.cells #[y0, x1, x2, x3, y4] t (0, 0)) :=
  heap_setCell_same _ T 4 _ _ y4 (heap_setCell_same w T 0 _ _ y0 h)
section
set_option maxRecDepth 100000
set_option maxHeartbeats 8000000
theorem lawSolve_any (al : Option Addr) (ll cl : Nat) (t : ByteArray) (k : Int) (w : World) (hE : Env w) (hl : ArgI w al ll cl) :
    Calls Tryz.prog 8 #[.slice al ll cl, .string t, .int .i64 k] w fun e w' => e = .returned (.bool true) ∧ Below w.heap.size w w' := by
  have HE := Lib.hid hE
  have HAl := Lib.hid hl
  clear hE hl
  go_enter Tryz.func8, Tryz.ntmps8
  by_cases hsz : 60 < t.size
  · have hsz' : (60 : Int) < (t.size : Int) := by omega
    go_wp2_with fail
    refine (awakeL _ HE.out).mono ?_
    rintro e w1 ⟨rfl, hb⟩
    have HB := Lib.hid hb
    clear hb
    go_wp2
    go_ret
    exact ⟨rfl, HB.out⟩
  have hsz' : ¬ (60 : Int) < (t.size : Int) := by omega
  go_wp2_with fail
  refine (new_any al ll cl _ HAl.out).mono ?_
  rintro e w1 ⟨rfl, rfl⟩
  go_wp2_with fail
  refine (constraint_any _ _ _ _ _ (ch_newL HAl.out)).mono ?_
  rintro e w1 ⟨r, s, cs, q, bo, m, cp, tx, tm, rfl, lc, hok, -, hg⟩
  have HB := Lib.hid (new_far hg)
  have LC := Lib.hid lc
  have HOK := Lib.hid hok
  clear hg lc hok HAl
  go_wp2_with fail
  have HSS : Hid (w.heap.size ≤ w1.heap.size) := Lib.hid HB.out.size
  have HXc := Lib.hid (CX.new (r := r) (tm := tm) LC.out)
  have hfb := alloc_far w1 (.cells #[.int .i64 r, .int .i64 s, .slice bo m cp, .string tx, .string tm] 39)
  replace HB := Lib.hid (HB.out.trans (hfb.mono HB.out.size))
  have hfc := alloc_far (w1.alloc (.cells #[.int .i64 r, .int .i64 s, .slice bo m cp, .string tx, .string tm] 39)) (.cells #[.string ⟨#[117]⟩, .string ⟨#[118]⟩, .string ⟨#[120]⟩, .string ⟨#[121]⟩, .string t] 9)
  replace HB := Lib.hid (HB.out.trans (hfc.mono HB.out.size))
  replace HXc := Lib.hid (HXc.out.far hfc)
  have hx5 := heap_alloc_new (w1.alloc (.cells #[.int .i64 r, .int .i64 s, .slice bo m cp, .string tx, .string tm] 39)) (.cells #[.string ⟨#[117]⟩, .string ⟨#[118]⟩, .string ⟨#[120]⟩, .string ⟨#[121]⟩, .string t] 9)
  rw [show (w1.alloc (.cells #[.int .i64 r, .int .i64 s, .slice bo m cp, .string tx, .string tm] 39)).heap.size = w1.heap.size + 1 by simp] at hx5
  have HX5 := Lib.hid hx5
  clear LC hfb hfc hx5
  generalize (w1.alloc (.cells #[.int .i64 r, .int .i64 s, .slice bo m cp, .string tx, .string tm] 39)).alloc (.cells #[.string ⟨#[117]⟩, .string ⟨#[118]⟩, .string ⟨#[120]⟩, .string ⟨#[121]⟩, .string t] 9) = w2 at *
  generalize w1.heap.size = S at *
  refine (modS k 5 _ (by decide) (by decide)).mono ?_
  rintro e w3 ⟨a, ha0, ha1, rfl, rfl⟩
  obtain ⟨j, rfl⟩ : ∃ j : Nat, a = (j : Int) := ⟨a.toNat, by omega⟩
  obtain ⟨tv, htv⟩ := five t j (by omega)
  have c5 := (heap_cell HX5.out j).trans htv
  clear htv
  go_wp2_with fail
  clear c5 HX5
  refine (modS k 3 _ (by decide) (by decide)).mono ?_
  rintro e w4 ⟨b, hb0, hb1, rfl, rfl⟩
  obtain ⟨nm, hnm⟩ : ∃ nm : List UInt8, (⟨nm.toArray⟩ : ByteArray) = tv := ⟨tv.data.toList, by simp⟩
  subst hnm
  have HR0 : Hid (ConOk r s tm → ConOk 3 s ⟨#[]⟩) := Lib.hid fun h => ⟨h.1, .inl ⟨by decide, by decide, rfl⟩⟩
  by_cases hb3 : 0 < b
  have c0 := heap_cell HXc.out.h 0
  have c4 := heap_cell HXc.out.h 4
  have fr := fun i => heap_fz HXc.out.h i
  go_upto_region 7 with fail
  have ho : ∀ g, g ≠ S → ((w4.setCell ⟨S, 0, none⟩ (.int .i64 3)).setCell ⟨S, 4, none⟩ (.string ⟨#[]⟩)).heap[g]? = w4.heap[g]? := fun g hg => (Below.heap_setCell _ _ _ _ hg).trans (Below.heap_setCell _ _ _ _ hg)
  have HX : Hid (∃ r tm, CX ((w4.setCell ⟨S, 0, none⟩ (.int .i64 3)).setCell ⟨S, 4, none⟩ (.string ⟨#[]⟩)) S r s bo m cp tx tm 26 q cs ∧ ConOk r s tm) := Lib.hid ⟨3, ⟨#[]⟩, ⟨set04 HXc.out.h, HXc.out.l.but HXc.out.h (by decide) ho⟩, HR0.out HOK.out⟩
  replace HB := Lib.hid ((HB.out.setCell (p := ⟨S, 0, none⟩) HSS.out (.int .i64 3)).setCell (p := ⟨S, 4, none⟩) HSS.out (.string ⟨#[]⟩))
  clear c0 c4 fr ho HXc HOK HR0
  generalize (w4.setCell ⟨S, 0, none⟩ (.int .i64 3)).setCell ⟨S, 4, none⟩ (.string ⟨#[]⟩) = w5 at *
  rotate_left
  have HX : Hid (∃ r tm, CX w4 S r s bo m cp tx tm 26 q cs ∧ ConOk r s tm) := Lib.hid ⟨r, tm, HXc.out, HOK.out⟩
  clear HXc HOK HR0
  go_upto_region 7 with fail
  all_goals
    obtain ⟨r', tm', hx, hok⟩ := HX.out
    have HXc := Lib.hid hx
    obtain ⟨M, hM, hk⟩ := con_mod hok
    have hs1 : ∀ W, Below w.heap.size w W → LV W (.agg #[.int .i64 s, .slice bo m cp, .string tx]) s 26 q cs → Calls Tryz.prog 35 #[.agg #[.int .i64 r', .int .i64 s, .slice bo m cp, .string tx, .string tm'], .string ⟨nm.toArray⟩] W (SolvePost r' s 26 q cs nm W) := fun W hW hl => solve_any nm hl hok (by decide) (HE.out.far hW)
    have hs2 : ∀ W, LV W (.agg #[.int .i64 s, .slice bo m cp, .string tx]) s 26 q cs → Calls Tryz.prog 36 #[.agg #[.int .i64 r', .int .i64 s, .slice bo m cp, .string tx, .string tm'], .string ⟨nm.toArray⟩] W (SolvePost r' s 26 q cs nm W) := fun W hl => by
      rw [hM]
      exact refSolve_any nm hl hk (by decide)
    have hrp : ∀ W v bs, Below w.heap.size w W → LV W (.agg #[.int .i64 s, .slice bo m cp, .string tx]) s 26 q cs → LV W v s 82 (solC q cs nm) bs → (∀ n, cof bs n = solF cs nm n) → nameF nm = true → cof cs nm ≠ 0 → Calls Tryz.prog 31 #[.agg #[.int .i64 s, .slice bo m cp, .string tx], .string ⟨nm.toArray⟩, v] W (GetsLE s 247 0 (fun _ => 0) W) := fun W v bs hW hl hv hf hn hc => by
      refine (replace_any nm (hl.mono (by decide)) hv hn hk.sort (by decide) (HE.out.far hW)).mono ?_
      rintro e w' ⟨rs, u, g1, g2, g3, g4⟩
      rw [sol_c hc] at g2
      refine ⟨rs, u, g1, g2, fun n => ?_, g4⟩
      have e1 := g3 n
      dsimp only at e1
      rw [e1, hf n]
      exact sol_f hc n
    have HS1 := Lib.hid hs1
    have HS2 := Lib.hid hs2
    have HRP := Lib.hid hrp
    clear hx hok hM hk hs1 hs2 hrp HX
    obtain ⟨tv, htv⟩ : ∃ t : ByteArray, ⟨nm.toArray⟩ = t := ⟨_, rfl⟩
    rw [htv] at HS1 HS2 HRP ⊢
    clear htv
    have c0 := heap_cell HXc.out.h 0
    have c1 := heap_cell HXc.out.h 1
    have c2 := heap_cell HXc.out.h 2
    have c3 := heap_cell HXc.out.h 3
    have c4 := heap_cell HXc.out.h 4
    go_wp2_with fail
    refine (HS1.out _ HB.out HXc.out.l).mono ?_
    rintro e w6 hp
    obtain ⟨s1, a1, n1, c1', x1, rfl, hb, hv⟩ := solve_open2 hp
    have HV1 := Lib.hid hv
    replace HXc := Lib.hid (HXc.out.far hb)
    replace HB := Lib.hid (HB.out.trans (hb.mono HB.out.size))
    have hal := alloc_far w6 (.cells #[.int .i64 s1, .slice a1 n1 c1', .string x1] 26)
    have HA1 := Lib.hid (heap_alloc_new w6 (.cells #[.int .i64 s1, .slice a1 n1 c1', .string x1] 26))
    replace HV1 := Lib.hid (HV1.out.far hal)
    replace HXc := Lib.hid (HXc.out.far hal)
    replace HB := Lib.hid (HB.out.trans (hal.mono HB.out.size))
    have hopen := fun (w : World) (e : Ending) (w' : World) (h : SolvePost r' s 26 q cs nm w e w') => solve_open2 h
    generalize solE r' s q cs nm = E at *
    have HOP := Lib.hid hopen
    clear hp hb hv hal c0 c1 c2 c3 c4 HS1 hopen
    go_upto_region 8 with fail
    generalize w6.alloc (.cells #[.int .i64 s1, .slice a1 n1 c1', .string x1] 26) = w7 at *
    generalize w6.heap.size = A1 at *
    have c0 := heap_cell HXc.out.h 0
    have c1 := heap_cell HXc.out.h 1
    have c2 := heap_cell HXc.out.h 2
    have c3 := heap_cell HXc.out.h 3
    have c4 := heap_cell HXc.out.h 4
    go_wp2_with fail
    refine (HS2.out _ HXc.out.l).mono ?_
    rintro e w8 hp
    obtain ⟨s2, a2, n2, c2', x2, rfl, hb, hv⟩ := HOP.out _ _ _ hp
    have HV2 := Lib.hid hv
    replace HXc := Lib.hid (HXc.out.far hb)
    replace HV1 := Lib.hid (HV1.out.far hb)
    replace HA1 := Lib.hid ((hb.block _ (lt_of_heap HA1.out)).trans HA1.out)
    replace HB := Lib.hid (HB.out.trans (hb.mono HB.out.size))
    have hal := alloc_far w8 (.cells #[.int .i64 s2, .slice a2 n2 c2', .string x2] 26)
    have HA2 := Lib.hid (heap_alloc_new w8 (.cells #[.int .i64 s2, .slice a2 n2 c2', .string x2] 26))
    replace HV1 := Lib.hid (HV1.out.far hal)
    replace HV2 := Lib.hid (HV2.out.far hal)
    replace HXc := Lib.hid (HXc.out.far hal)
    replace HA1 := Lib.hid ((hal.block _ (lt_of_heap HA1.out)).trans HA1.out)
    replace HB := Lib.hid (HB.out.trans (hal.mono HB.out.size))
    clear hp hb hv hal c0 c1 c2 c3 c4 HS2 HOP
    go_upto_region 9 with fail
    generalize w8.alloc (.cells #[.int .i64 s2, .slice a2 n2 c2', .string x2] 26) = w9 at *
    generalize w8.heap.size = A2 at *
    have k0 := heap_cell HA1.out 0
    have k1 := heap_cell HA1.out 1
    have k2 := heap_cell HA1.out 2
    have l0 := heap_cell HA2.out 0
    have l1 := heap_cell HA2.out 1
    have l2 := heap_cell HA2.out 2
    have hE1 : (E != E) = false := by simp
    go_wp2_with fail
    refine (sameV HV1.out HV2.out).mono ?_
    rintro e w10 ⟨rfl, hb⟩
    replace HV1 := Lib.hid (HV1.out.far hb)
    replace HXc := Lib.hid (HXc.out.far hb)
    replace HA1 := Lib.hid ((hb.block _ (lt_of_heap HA1.out)).trans HA1.out)
    replace HB := Lib.hid (HB.out.trans (hb.mono HB.out.size))
    clear hb k0 k1 k2 l0 l1 l2 HV2 HA2 hE1
    by_cases hE0 : E = 0
    rotate_left
    · have hE1 : (E != 0) = true := by simpa using hE0
      have hE2 : (E == 0) = false := by simpa using hE0
      have hE3 : decide (E = 0) = false := decide_eq_false hE0
      go_wp2_with fail
      refine (awakeL _ (HE.out.far HB.out)).mono ?_
      rintro e w11 ⟨rfl, hb⟩
      replace HB := Lib.hid (HB.out.trans (hb.mono HB.out.size))
      clear hb
      go_wp2
      go_ret
      exact ⟨rfl, HB.out⟩
    obtain ⟨hn, hc, bs, hl, hf⟩ := (HV1.out.resolve_left fun h => h.1 hE0).2
    subst hE0
    have HL := Lib.hid hl
    have HF := Lib.hid hf
    have HN := Lib.hid hn
    have HC := Lib.hid hc
    have c1 := heap_cell HXc.out.h 1
    have c2 := heap_cell HXc.out.h 2
    have c3 := heap_cell HXc.out.h 3
    have k0 := heap_cell HA1.out 0
    have k1 := heap_cell HA1.out 1
    have k2 := heap_cell HA1.out 2
    clear hn hc hl hf HV1
    go_wp2_with fail
    refine (HRP.out _ _ bs HB.out HXc.out.l HL.out HF.out HN.out HC.out).mono ?_
    rintro e w11 ⟨rs, v, rfl, hl, hf, hb⟩
    replace HB := Lib.hid (HB.out.trans (hb.mono HB.out.size))
    obtain rfl : rs = [] := can_zero hl.good.1.can hf
    obtain ⟨a3, n3, c3', x3, rfl⟩ := lvOpen hl
    obtain ⟨rfl, rfl, -⟩ := lvIn hl
    have HAL := Lib.hid (heap_alloc_new w11 (.cells #[.int .i64 s, .slice a3 0 c3', .string ⟨#[48]⟩] 26))
    have hal := alloc_far w11 (.cells #[.int .i64 s, .slice a3 0 c3', .string ⟨#[48]⟩] 26)
    replace HB := Lib.hid (HB.out.trans (hal.mono HB.out.size))
    have hz : TX 0 = ⟨#[48]⟩ := tx_int_zero
    rw [hz]
    clear hl hf hb hal c1 c2 c3 k0 k1 k2 hz
    go_upto_region 14 with fail
    generalize w11.alloc (.cells #[.int .i64 s, .slice a3 0 c3', .string ⟨#[48]⟩] 26) = w12 at *
    generalize w11.heap.size = A3 at *
    have k1 := heap_cell HAL.out 1
    have k2 := heap_cell HAL.out 2
    go_wp2_with fail
    refine (awakeL _ (HE.out.far HB.out)).mono ?_
    rintro e w13 ⟨rfl, hb⟩
    replace HB := Lib.hid (HB.out.trans (hb.mono HB.out.size))
    clear hb
    go_wp2
    go_ret
    exact ⟨rfl, HB.out⟩
end
end Go.Proofs.YtgfoljpjdmeooaaGreatDoor

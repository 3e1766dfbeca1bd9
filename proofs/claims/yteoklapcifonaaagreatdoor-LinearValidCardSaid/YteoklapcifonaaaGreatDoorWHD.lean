/- LinearValid's walk. -/
import Derived.Test.YteoklapcifonaaaGreatDoorWHC
import Derived.Test.YteoklapcifonaaaGreatDoorWMC
import Derived.Test.YteoklapcifonaaaGreatDoorWMJ
namespace Go.Proofs.YteoklapcifonaaaGreatDoor
open Go.RowKit Nmx

section
set_option maxRecDepth 100000
set_option maxHeartbeats 16000000
theorem lawValid_any (s0 : Int) (a0 : Option Addr) (g0 o0 n0 c0 : Nat) (t0 : ByteArray) (rs0 : List (ByteArray × ByteArray)) (r s1 : Int) (a1 : Option Addr) (g1 o1 n1 c1 : Nat) (t1 tm : ByteArray) (rs1 : List (ByteArray × ByteArray)) (am : Option Addr) (lm cm : Nat) (w : World) (hE : Env w) (h0 : RSl w a0 g0 o0 c0 rs0) (hn0 : rs0.length = n0) (h1 : RSl w a1 g1 o1 c1 rs1) (hn1 : rs1.length = n1) (hm : ArgI w am lm cm) (htm : tm.size ≤ 9223372036854775807) :
    Calls Tryz.prog 5 #[.agg #[.int .i64 s0, .slice a0 n0 c0, .string t0], .agg #[.int .i64 r, .int .i64 s1, .slice a1 n1 c1, .string t1, .string tm], .slice am lm cm] w fun e w' => e = .returned (.bool true) ∧ Below w.heap.size w w' := by
  have HE := Lib.hid hE;have HAm := Lib.hid hm;have hsm0 : ∀ W, Below w.heap.size w W → Calls Tryz.prog 28 #[.agg #[.int .i64 s0, .slice a0 n0 c0, .string t0]] W fun e w' => e = .returned (.bool (smallF rs0 t0)) ∧ Below W.heap.size W w' := fun W hW => by rw [← hn0]; exact small_any (h0.far hW)
  have hsm1 : ∀ W, Below w.heap.size w W → Calls Tryz.prog 28 #[.agg #[.int .i64 s1, .slice a1 n1 c1, .string t1]] W fun e w' => e = .returned (.bool (smallF rs1 t1)) ∧ Below W.heap.size W w' := fun W hW => by rw [← hn1]; exact small_any (h1.far hW)
  have hvl0 : smallF rs0 t0 = true → ∀ W, Below w.heap.size w W → Calls Tryz.prog 29 #[.agg #[.int .i64 s0, .slice a0 n0 c0, .string t0]] W fun e w' => e = .returned (.bool (validR s0 rs0 t0)) ∧ Below W.heap.size W w' := fun h W hW => by rw [← hn0]; exact linValidR (h0.far hW) (smallF_shrt h) (hE.far hW)
  have hvr0 : smallF rs0 t0 = true → ∀ W, Below w.heap.size w W → Calls Tryz.prog 30 #[.agg #[.int .i64 s0, .slice a0 n0 c0, .string t0]] W fun e w' => e = .returned (.bool (validR s0 rs0 t0)) ∧ Below W.heap.size W w' := fun h W hW => by rw [← hn0]; exact refValidR (h0.far hW) (smallF_shrt h)
  have hvl1 : smallF rs1 t1 = true → tm.size ≤ 1000 → ∀ W, Below w.heap.size w W → Calls Tryz.prog 31 #[.agg #[.int .i64 r, .int .i64 s1, .slice a1 n1 c1, .string t1, .string tm]] W fun e w' => e = .returned (.bool (conV (validR s1 rs1 t1) r s1 tm)) ∧ Below W.heap.size W w' := fun h ht W hW => conR (fun W2 hW2 => by rw [← hn1]; exact linValidR (h1.far (hW.trans (hW2.mono hW.size))) (smallF_shrt h) (hE.far (hW.trans (hW2.mono hW.size)))) ht (hE.far hW)
  have hvr1 : smallF rs1 t1 = true → tm.size ≤ 1000 → ∀ W, Below w.heap.size w W → Calls Tryz.prog 32 #[.agg #[.int .i64 r, .int .i64 s1, .slice a1 n1 c1, .string t1, .string tm]] W fun e w' => e = .returned (.bool (conV (validR s1 rs1 t1) r s1 tm)) ∧ Below W.heap.size W w' := fun h ht W hW => refConR (fun W2 hW2 => by rw [← hn1]; exact refValidR (h1.far (hW.trans (hW2.mono hW.size))) (smallF_shrt h)) ht
  obtain ⟨b0, hb0⟩ : ∃ b, validR s0 rs0 t0 = b := ⟨_, rfl⟩
  obtain ⟨b1, hb1⟩ : ∃ b, conV (validR s1 rs1 t1) r s1 tm = b := ⟨_, rfl⟩
  obtain ⟨m0, hm0⟩ : ∃ b, smallF rs0 t0 = b := ⟨_, rfl⟩
  obtain ⟨m1, hm1⟩ : ∃ b, smallF rs1 t1 = b := ⟨_, rfl⟩
  rw [hb0] at hvl0 hvr0;rw [hb1] at hvl1 hvr1;rw [hm0] at hsm0 hvl0 hvr0;rw [hm1] at hsm1 hvl1 hvr1;have HS0 := Lib.hid hsm0;have HS1 := Lib.hid hsm1;have HV0 := Lib.hid hvl0;have HR0 := Lib.hid hvr0;have HV1 := Lib.hid hvl1;have HR1 := Lib.hid hvr1;have hle0 := h0.le;have hle1 := h1.le;obtain ⟨k1, k2, kb⟩ := newL2 w (.cells #[.int .i64 s0, .slice a0 n0 c0, .string t0] 26) (.cells #[.int .i64 r, .int .i64 s1, .slice a1 n1 c1, .string t1, .string tm] 39);have HL := Lib.hid k1;have HC := Lib.hid k2;have HB := Lib.hid kb;clear hE hm hsm0 hsm1 hvl0 hvr0 hvl1 hvr1 hb0 hb1 hm0 hm1 h0 h1 hn0 hn1 hle0 hle1 k1 k2 kb
  go_enter Tryz.func5, Tryz.ntmps5
  go_wp2_with fail
  generalize (w.alloc (.cells #[.int .i64 s0, .slice a0 n0 c0, .string t0] 26)).alloc (.cells #[.int .i64 r, .int .i64 s1, .slice a1 n1 c1, .string t1, .string tm] 39) = w1 at *;refine (HS0.out _ HB.out).mono ?_;rintro e w2 ⟨rfl, hb1⟩;replace HB := Lib.hid (HB.out.trans (hb1.mono HB.out.size));replace HL := Lib.hid ((hb1.block _ (lt_of_heap HL.out)).trans HL.out);replace HC := Lib.hid ((hb1.block _ (lt_of_heap HC.out)).trans HC.out);clear hb1;cases m0 with
  | false =>
    go_wp2_with fail
    refine (awakeL _ (HE.out.far HB.out)).mono ?_;rintro e wk ⟨rfl, hb1⟩;replace HB := Lib.hid (HB.out.trans (hb1.mono HB.out.size));clear hb1
    go_wp2
    go_ret
    exact ⟨rfl, HB.out⟩
  | true =>
    have hv0 := HV0.out rfl;have hr0 := HR0.out rfl;replace HV0 := Lib.hid hv0;replace HR0 := Lib.hid hr0;clear hv0 hr0;have p1 := heap_cell HC.out 1;have p2 := heap_cell HC.out 2;have p3 := heap_cell HC.out 3
    go_wp2_with fail
    refine (HS1.out _ HB.out).mono ?_;rintro e w3 ⟨rfl, hb1⟩;replace HB := Lib.hid (HB.out.trans (hb1.mono HB.out.size));replace HL := Lib.hid ((hb1.block _ (lt_of_heap HL.out)).trans HL.out);replace HC := Lib.hid ((hb1.block _ (lt_of_heap HC.out)).trans HC.out);clear hb1 p1 p2 p3;cases m1 with
    | false =>
      go_wp2_with fail
      refine (awakeL _ (HE.out.far HB.out)).mono ?_;rintro e wk ⟨rfl, hb1⟩;replace HB := Lib.hid (HB.out.trans (hb1.mono HB.out.size));clear hb1
      go_wp2
      go_ret
      exact ⟨rfl, HB.out⟩
    | true =>
      have p4 := heap_cell HC.out 4
      by_cases h40 : 40 < tm.size
      · have hi40 : (40 : Int) < (tm.size : Int) := by omega
        go_wp2_with fail
        clear p4 hi40;refine (awakeL _ (HE.out.far HB.out)).mono ?_;rintro e wk ⟨rfl, hb1⟩;replace HB := Lib.hid (HB.out.trans (hb1.mono HB.out.size));clear hb1
        go_wp2
        go_ret
        exact ⟨rfl, HB.out⟩
      have hi40 : ¬ (40 : Int) < (tm.size : Int) := by omega
      have hv1 := HV1.out rfl (by omega);have hr1 := HR1.out rfl (by omega);replace HV1 := Lib.hid hv1;replace HR1 := Lib.hid hr1;have HTM : Hid (tm.size ≤ 1000) := Lib.hid (by omega);clear hv1 hr1
      go_wp2_with fail
      clear p4 hi40 h40;refine (new_any am lm cm _ (HAm.out.far HB.out)).mono ?_;rintro e w4 ⟨rfl, rfl⟩
      go_wp2_with fail
      refine (constraint_any _ _ _ _ _ (ch_newL (HAm.out.far HB.out))).mono ?_;rintro e w5 ⟨rd, sd, cs, q, bo, m, cp, tx, td, rfl, lc, hok, -, hg⟩;have hb1 := new_far hg;replace HB := Lib.hid (HB.out.trans (hb1.mono HB.out.size));replace HL := Lib.hid ((hb1.block _ (lt_of_heap HL.out)).trans HL.out);replace HC := Lib.hid ((hb1.block _ (lt_of_heap HC.out)).trans HC.out);have LC := Lib.hid lc;have HSD := Lib.hid hok.1;clear hb1 hg lc hok;have p0 := heap_cell HC.out 0;have p1 := heap_cell HC.out 1;have p2 := heap_cell HC.out 2;have p3 := heap_cell HC.out 3;have p4 := heap_cell HC.out 4;have hla := lt_of_heap HC.out
      go_wp2_with fail
      have HLT : Hid (w.heap.size + 1 < w5.heap.size) := Lib.hid (lt_of_heap HC.out);obtain ⟨k1, k2, kb⟩ := newL2 w5 (.cells #[.int .i64 rd, .int .i64 sd, .slice bo m cp, .string tx, .string tm] 39) (.cells #[.int .i64 r, .int .i64 s1, .slice a1 n1 c1, .string t1, .string tm] 39);have HD := Lib.hid k1;have HX := Lib.hid k2;replace LC := Lib.hid (LC.out.far kb);replace HB := Lib.hid (HB.out.trans (kb.mono HB.out.size));replace HL := Lib.hid ((kb.block _ (lt_of_heap HL.out)).trans HL.out);replace HC := Lib.hid ((kb.block _ (lt_of_heap HC.out)).trans HC.out);clear k1 k2 kb p0 p1 p2 p3 p4 hla;generalize (w5.alloc (.cells #[.int .i64 rd, .int .i64 sd, .slice bo m cp, .string tx, .string tm] 39)).alloc (.cells #[.int .i64 r, .int .i64 s1, .slice a1 n1 c1, .string t1, .string tm] 39) = w6 at *;generalize w5.heap.size = S at *;refine (new_any am lm cm _ (HAm.out.far HB.out)).mono ?_;rintro e w7 ⟨rfl, rfl⟩
      go_wp2_with fail
      refine (linear_any _ _ _ _ 2 _ (ch_newL (HAm.out.far HB.out))).mono ?_;intro e w8 hp;obtain ⟨cx, qx, ax, nx, px, ty, rfl, lx, hg⟩ := linPost_open hp;have hb1 := new_far hg;replace HB := Lib.hid (HB.out.trans (hb1.mono HB.out.size));replace LC := Lib.hid (LC.out.far hb1);replace HL := Lib.hid ((hb1.block _ (lt_of_heap HL.out)).trans HL.out);replace HC := Lib.hid ((hb1.block _ (lt_of_heap HC.out)).trans HC.out);replace HD := Lib.hid ((hb1.block _ (lt_of_heap HD.out)).trans HD.out);replace HX := Lib.hid ((hb1.block _ (lt_of_heap HX.out)).trans HX.out);have LX := Lib.hid lx;clear hb1 hg hp lx;have x0 := heap_cell HX.out 0;have x1 := heap_cell HX.out 1;have x2 := heap_cell HX.out 2;have x3 := heap_cell HX.out 3;have fr := fun i => heap_fz HX.out i
      go_upto_region 7 with fail
      have ho : ∀ h, h ≠ S + 1 → (((w8.setCell ⟨S + 1, 1, none⟩ (.int .i64 2)).setCell ⟨S + 1, 2, none⟩ (.slice ax nx px)).setCell ⟨S + 1, 3, none⟩ (.string ty)).heap[h]? = w8.heap[h]? := fun h hh => set3m_other _ _ _ hh
      have hs1 : w.heap.size ≠ S + 1 := by have := HLT.out; omega
      have hs2 : w.heap.size + 1 ≠ S + 1 := by have := HLT.out; omega
      have hs3 : S ≠ S + 1 := by omega
      replace HL := Lib.hid ((ho _ hs1).trans HL.out);replace HC := Lib.hid ((ho _ hs2).trans HC.out);replace HD := Lib.hid ((ho _ hs3).trans HD.out);replace LC := Lib.hid (LC.out.but HX.out (by decide) ho);replace LX := Lib.hid (LX.out.but HX.out (by decide) ho);have hge : w.heap.size ≤ S + 1 := by have := HLT.out; omega
      replace HB := Lib.hid (Below.setCell (Below.setCell (Below.setCell HB.out (p := ⟨S + 1, 1, none⟩) hge (.int .i64 2)) (p := ⟨S + 1, 2, none⟩) hge (.slice ax nx px)) (p := ⟨S + 1, 3, none⟩) hge (.string ty));replace HX := Lib.hid (set3m HX.out (y1 := .int .i64 2) (y2 := .slice ax nx px) (y3 := .string ty));clear x0 x1 x2 x3 fr ho hs1 hs2 hs3 hge HLT;generalize ((w8.setCell ⟨S + 1, 1, none⟩ (.int .i64 2)).setCell ⟨S + 1, 2, none⟩ (.slice ax nx px)).setCell ⟨S + 1, 3, none⟩ (.string ty) = w9 at *;have hvd : ∀ W, Below w9.heap.size w9 W → Calls Tryz.prog 31 #[.agg #[.int .i64 rd, .int .i64 sd, .slice bo m cp, .string tx, .string tm]] W fun e w' => e = .returned (.bool (conV true rd sd tm)) ∧ Below W.heap.size W w' := fun W hW => conR (fun W2 hW2 => validL ((LC.out.far hW).far hW2) HSD.out (by decide) (HE.out.far (HB.out.trans ((hW.trans (hW2.mono hW.size)).mono HB.out.size)))) HTM.out (HE.out.far (HB.out.trans (hW.mono HB.out.size)))
      have hrd : ∀ W, Below w9.heap.size w9 W → Calls Tryz.prog 32 #[.agg #[.int .i64 rd, .int .i64 sd, .slice bo m cp, .string tx, .string tm]] W fun e w' => e = .returned (.bool (conV true rd sd tm)) ∧ Below W.heap.size W w' := fun W hW => refConR (fun W2 hW2 => refValidL ((LC.out.far hW).far hW2) HSD.out (by decide)) HTM.out
      have hvx : ∀ W, Below w9.heap.size w9 W → Calls Tryz.prog 31 #[.agg #[.int .i64 r, .int .i64 2, .slice ax nx px, .string ty, .string tm]] W fun e w' => e = .returned (.bool (conV true r 2 tm)) ∧ Below W.heap.size W w' := fun W hW => conR (fun W2 hW2 => validL ((LX.out.far hW).far hW2) (.inl rfl) (by decide) (HE.out.far (HB.out.trans ((hW.trans (hW2.mono hW.size)).mono HB.out.size)))) HTM.out (HE.out.far (HB.out.trans (hW.mono HB.out.size)))
      have hrx : ∀ W, Below w9.heap.size w9 W → Calls Tryz.prog 32 #[.agg #[.int .i64 r, .int .i64 2, .slice ax nx px, .string ty, .string tm]] W fun e w' => e = .returned (.bool (conV true r 2 tm)) ∧ Below W.heap.size W w' := fun W hW => refConR (fun W2 hW2 => refValidL ((LX.out.far hW).far hW2) (.inl rfl) (by decide)) HTM.out
      obtain ⟨b2, hb2⟩ : ∃ b, conV true rd sd tm = b := ⟨_, rfl⟩
      obtain ⟨b3, hb3⟩ : ∃ b, conV true r 2 tm = b := ⟨_, rfl⟩
      rw [hb2] at hvd hrd;rw [hb3] at hvx hrx;have HVD := Lib.hid hvd;have HRD := Lib.hid hrd;have HVX := Lib.hid hvx;have HRX := Lib.hid hrx;have HBW : Hid (∀ W, Below w9.heap.size w9 W → Below w.heap.size w W) := Lib.hid fun W hW => HB.out.trans (hW.mono HB.out.size)
      have HWL : Hid (∀ W, Below w9.heap.size w9 W → W.heap[w.heap.size]? = some (.cells #[.int .i64 s0, .slice a0 n0 c0, .string t0] 26 (0, 0))) := Lib.hid fun W hW => (hW.block _ (lt_of_heap HL.out)).trans HL.out
      have HWC : Hid (∀ W, Below w9.heap.size w9 W → W.heap[w.heap.size + 1]? = some (.cells #[.int .i64 r, .int .i64 s1, .slice a1 n1 c1, .string t1, .string tm] 39 (0, 0))) := Lib.hid fun W hW => (hW.block _ (lt_of_heap HC.out)).trans HC.out
      have HWD : Hid (∀ W, Below w9.heap.size w9 W → W.heap[S]? = some (.cells #[.int .i64 rd, .int .i64 sd, .slice bo m cp, .string tx, .string tm] 39 (0, 0))) := Lib.hid fun W hW => (hW.block _ (lt_of_heap HD.out)).trans HD.out
      have HWX : Hid (∀ W, Below w9.heap.size w9 W → W.heap[S + 1]? = some (.cells #[.int .i64 r, .int .i64 2, .slice ax nx px, .string ty, .string tm] 39 (0, 0))) := Lib.hid fun W hW => (hW.block _ (lt_of_heap HX.out)).trans HX.out
      have hq0 : (b0 == b0) = true := beq_self_eq_true _;have hq1 : (b1 == b1) = true := beq_self_eq_true _;have hq2 : (b2 == b2) = true := beq_self_eq_true _;have hq3 : (b3 == b3) = true := beq_self_eq_true _;clear hvd hrd hvx hrx hb2 hb3 HL HC HD HX LC LX HS0 HS1 HAm;refine q_region (fun W => Below w9.heap.size w9 W) (by kernel_rfl) (by kernel_rfl) (Below.refl _ _).drew ?_
      repeat (first
        | (refine q_skip ?_ ?_
           · (go_simp; done)
           simp only [Act.put, List.setIfInBounds_toArray, List.set_cons_zero, List.set_cons_succ])
        | (refine q_take (v := ?_) ?_ ?_ ?_
           rotate_left
           · (go_simp; done)
           · intro W hW;have l0 := heap_cell (HWL.out W hW) 0;have l1 := heap_cell (HWL.out W hW) 1;have l2 := heap_cell (HWL.out W hW) 2;have c0 := heap_cell (HWC.out W hW) 0;have c1 := heap_cell (HWC.out W hW) 1;have c2 := heap_cell (HWC.out W hW) 2;have c3 := heap_cell (HWC.out W hW) 3;have c4 := heap_cell (HWC.out W hW) 4;have d0 := heap_cell (HWD.out W hW) 0;have d1 := heap_cell (HWD.out W hW) 1;have d2 := heap_cell (HWD.out W hW) 2;have d3 := heap_cell (HWD.out W hW) 3;have d4 := heap_cell (HWD.out W hW) 4;have x0 := heap_cell (HWX.out W hW) 0;have x1 := heap_cell (HWX.out W hW) 1;have x2 := heap_cell (HWX.out W hW) 2;have x3 := heap_cell (HWX.out W hW) 3;have x4 := heap_cell (HWX.out W hW) 4
             go_simp
             first
             | with_reducible rfl
             | (go_at_call 29; with_reducible refine (HV0.out W (HBW.out W hW)).mono ?_; rintro e u ⟨rfl, hb⟩; refine ⟨?_, hW.trans (hb.mono hW.size)⟩; with_reducible rfl)
             | (go_at_call 30; with_reducible refine (HR0.out W (HBW.out W hW)).mono ?_; rintro e u ⟨rfl, hb⟩; refine ⟨?_, hW.trans (hb.mono hW.size)⟩; with_reducible rfl)
             | (go_at_call 31; with_reducible refine (HV1.out W (HBW.out W hW)).mono ?_; rintro e u ⟨rfl, hb⟩; refine ⟨?_, hW.trans (hb.mono hW.size)⟩; with_reducible rfl)
             | (go_at_call 31; with_reducible refine (HVD.out W hW).mono ?_; rintro e u ⟨rfl, hb⟩; refine ⟨?_, hW.trans (hb.mono hW.size)⟩; with_reducible rfl)
             | (go_at_call 31; with_reducible refine (HVX.out W hW).mono ?_; rintro e u ⟨rfl, hb⟩; refine ⟨?_, hW.trans (hb.mono hW.size)⟩; with_reducible rfl)
             | (go_at_call 32; with_reducible refine (HR1.out W (HBW.out W hW)).mono ?_; rintro e u ⟨rfl, hb⟩; refine ⟨?_, hW.trans (hb.mono hW.size)⟩; with_reducible rfl)
             | (go_at_call 32; with_reducible refine (HRD.out W hW).mono ?_; rintro e u ⟨rfl, hb⟩; refine ⟨?_, hW.trans (hb.mono hW.size)⟩; with_reducible rfl)
             | (go_at_call 32; with_reducible refine (HRX.out W hW).mono ?_; rintro e u ⟨rfl, hb⟩; refine ⟨?_, hW.trans (hb.mono hW.size)⟩; with_reducible rfl)
             | (go_at_call 20; with_reducible refine (awakeL W (HE.out.far (HBW.out W hW))).mono ?_; rintro e u ⟨rfl, hb⟩; refine ⟨?_, hW.trans (hb.mono hW.size)⟩; with_reducible rfl)
           simp only [Act.put, List.setIfInBounds_toArray, List.set_cons_zero, List.set_cons_succ]))
      refine q_nil ?_;intro w10 hw;replace HB := Lib.hid (HBW.out w10 hw);clear hw
      go_wp2
      go_ret
      exact ⟨rfl, HB.out⟩
end
end Go.Proofs.YteoklapcifonaaaGreatDoor

/-
  PROVED HERE: for all slices of ints l and m, all linear expressions raw, all strings k and name and all ints s, LinearOperations answers true and leaves its arguments as they were: the row's statement and its tied card.
  CONDITIONS: those of the row alone (five package variables hold what the program's text lays: math/bits.deBruijn32tab, math/bits.deBruijn64tab, internal/strconv.uint64pow10, strconv.ErrRange, strconv.ErrSyntax; internal/bytealg.MaxLen holds any number).
-/
import Derived.Test.YteoklapcifonaaaGreatDoorVJE
import Derived.Test.YteoklapcifonaaaGreatDoorVHC
import Derived.Test.YteoklapcifonaaaGreatDoorVLU
import Derived.Test.YteoklapcifonaaaGreatDoorVMJ
import Derived.Test.YteoklapcifonaaaGreatDoorVLD
import Derived.Test.YteoklapcifonaaaGreatDoorVLV
import Derived.Deep.SlicePairs
open Go.Lib (hid)
namespace Go.Proofs.YteoklapcifonaaaGreatDoor
open Go.RowKit Nmx
open Go.Lib (compareBytes)
set_option maxRecDepth 100000
set_option maxHeartbeats 16000000
theorem five5 (t : ByteArray) (j : Nat) (h : j < 5) : ∃ tv, (#[Value.string ⟨#[117]⟩, .string ⟨#[118]⟩, .string ⟨#[120]⟩, .string ⟨#[121]⟩, .string t] : Array Value)[j]? = some (.string tv) := by
 match j, h with
 | 0, _ => exact ⟨_, rfl⟩
 | 1, _ => exact ⟨_, rfl⟩
 | 2, _ => exact ⟨_, rfl⟩
 | 3, _ => exact ⟨_, rfl⟩
 | 4, _ => exact ⟨_, rfl⟩
theorem lawOps_any (al : Option Addr) (ll cl : Nat) (am : Option Addr) (lm cm : Nat) (s0 : Int) (a0 : Option Addr) (g0 o0 n0 c0 : Nat) (t0 : ByteArray) (rs0 : List (ByteArray × ByteArray)) (k name : ByteArray) (z : Int) (w : World) (hE : Env w) (hl : ArgI w al ll cl) (hm : ArgI w am lm cm) (h0 : RSl w a0 g0 o0 c0 rs0) (hn0 : rs0.length = n0) :
    Calls Tryz.prog 8 #[.slice al ll cl, .slice am lm cm, .agg #[.int .i64 s0, .slice a0 n0 c0, .string t0], .string k, .string name, .int .i64 z] w fun e w' => e = .returned (.bool true) ∧ Below w.heap.size w w' := by
 have HE := hid hE;have HAl := hid hl;have HAm := hid hm;have hsm0 : ∀ W, Below w.heap.size w W → Calls Tryz.prog 28 #[.agg #[.int .i64 s0, .slice a0 n0 c0, .string t0]] W fun e w' => e = .returned (.bool (smallF rs0 t0)) ∧ Below W.heap.size W w' := fun W hW => by rw [← hn0]; exact small_any (h0.far hW)
 have hra : smallF rs0 t0 = true → ∀ W v s p cs, Below w.heap.size w W → LV W v s 26 p cs → (s = 2 ∨ s = 3) → Calls Tryz.prog 17 #[.agg #[.int .i64 s0, .slice a0 n0 c0, .string t0], v] W (AddP (rawU rs0) (validR s0 rs0 t0) s0 s 121 (rawC t0 + p) (fun n => cof (rcs rs0) n + cof cs n) W) := fun h W v s p cs hW hv hs => by rw [← hn0]; exact addRaw (h0.far hW) (smallF_shrt h) hv hs (hE.far hW)
 have hrb : smallF rs0 t0 = true → ∀ W v s p cs, Below w.heap.size w W → LV W v s 26 p cs → (s = 2 ∨ s = 3) → Calls Tryz.prog 36 #[.agg #[.int .i64 s0, .slice a0 n0 c0, .string t0], v] W (AddP (rawU rs0) (validR s0 rs0 t0) s0 s 67 (rawC t0 + p) (fun n => cof (rcs rs0) n + cof cs n) W) := fun h W v s p cs hW hv hs => by rw [← hn0]; exact refAddRaw (h0.far hW) (smallF_shrt h) hv hs
 obtain ⟨m0, hm0⟩ : ∃ b, smallF rs0 t0 = b := ⟨_, rfl⟩
 rw [hm0] at hsm0 hra hrb;have HS0 := hid hsm0;have HRA := hid hra;have HRB := hid hrb;have hal0 := alloc_far w (.cells #[.int .i64 s0, .slice a0 n0 c0, .string t0] 26);have HB := hid hal0;have HL := hid (heap_alloc_new w (.cells #[.int .i64 s0, .slice a0 n0 c0, .string t0] 26));clear hE hl hm hsm0 hra hrb hm0 h0 hn0 hal0
 go_enter Tryz.func8, Tryz.ntmps8
 go_wp2_with fail
 generalize w.alloc (.cells #[.int .i64 s0, .slice a0 n0 c0, .string t0] 26) = w1 at *;refine (HS0.out _ HB.out).mono ?_;rintro e w2 ⟨rfl, hb1⟩;replace HB := hid (HB.out.trans (hb1.mono HB.out.size));replace HL := hid ((hb1.block _ (lt_of_heap HL.out)).trans HL.out);clear hb1;cases m0 with
 | false =>
   go_wp2_with fail
   refine (awakeL _ (HE.out.far HB.out)).mono ?_;rintro e wk ⟨rfl, hb1⟩;replace HB := hid (HB.out.trans (hb1.mono HB.out.size));clear hb1
   go_wp2
   go_ret
   exact ⟨rfl, HB.out⟩
 | true =>
   have hra := HRA.out rfl;have hrb := HRB.out rfl;replace HRA := hid hra;replace HRB := hid hrb;clear hra hrb HS0
   by_cases h40 : 40 < k.size
   · have hi40 : (40 : Int) < (k.size : Int) := by omega
     go_wp2_with fail
     clear hi40;refine (awakeL _ (HE.out.far HB.out)).mono ?_;rintro e wk ⟨rfl, hb1⟩;replace HB := hid (HB.out.trans (hb1.mono HB.out.size));clear hb1
     go_wp2
     go_ret
     exact ⟨rfl, HB.out⟩
   have hi40 : ¬ (40 : Int) < (k.size : Int) := by omega
   have HK : Hid (k.size ≤ 40) := hid (by omega)
   by_cases h60 : 60 < name.size
   · have hi60 : (60 : Int) < (name.size : Int) := by omega
     go_wp2_with fail
     clear hi40 hi60;refine (awakeL _ (HE.out.far HB.out)).mono ?_;rintro e wk ⟨rfl, hb1⟩;replace HB := hid (HB.out.trans (hb1.mono HB.out.size));clear hb1
     go_wp2
     go_ret
     exact ⟨rfl, HB.out⟩
   have hi60 : ¬ (60 : Int) < (name.size : Int) := by omega
   go_wp2_with fail
   clear hi40 hi60 h40 h60;refine (new_any al ll cl _ (HAl.out.far HB.out)).mono ?_;rintro e w3 ⟨rfl, rfl⟩
   go_wp2_with fail
   refine (modS z 2 _ (by decide) (by decide)).mono ?_;rintro e w4 ⟨a, ha0, ha1, rfl, rfl⟩;have hwr : IntKind.i64.wrap (2 + a) = 2 + a := by rw [IntKind.wrap_i64]; omega
   go_wp2_with fail
   obtain ⟨s1, hs1⟩ : ∃ s1, 2 + a = s1 := ⟨_, rfl⟩
   have HS1 : Hid (s1 = 2 ∨ s1 = 3) := hid (by omega);rw [hs1];clear hs1 hwr ha0 ha1;refine (linear_any _ _ _ _ s1 _ (ch_newL (HAl.out.far HB.out))).mono ?_;intro e w5 hp;obtain ⟨cs1, p1, a1, n1, c1, t1, rfl, la, hg⟩ := linPost_open hp;have hb1 := new_far hg;replace HB := hid (HB.out.trans (hb1.mono HB.out.size));replace HL := hid ((hb1.block _ (lt_of_heap HL.out)).trans HL.out);have LA := hid la;clear hb1 hg hp la
   go_wp2_with fail
   refine (new_any am lm cm _ (HAm.out.far HB.out)).mono ?_;rintro e w6 ⟨rfl, rfl⟩
   go_wp2_with fail
   refine (modS _ 2 _ (by decide) (by decide)).mono ?_;rintro e w7 ⟨a, ha0, ha1, rfl, rfl⟩;have hwr : IntKind.i64.wrap (2 + a) = 2 + a := by rw [IntKind.wrap_i64]; omega
   go_wp2_with fail
   obtain ⟨s2, hs2⟩ : ∃ s2, 2 + a = s2 := ⟨_, rfl⟩
   have HS2 : Hid (s2 = 2 ∨ s2 = 3) := hid (by omega);rw [hs2];clear hs2 hwr ha0 ha1;refine (linear_any _ _ _ _ s2 _ (ch_newL (HAm.out.far HB.out))).mono ?_;intro e w8 hp;obtain ⟨cs2, p2, a2, n2, c2, t2, rfl, lb, hg⟩ := linPost_open hp;have hb1 := new_far hg;replace HB := hid (HB.out.trans (hb1.mono HB.out.size));replace HL := hid ((hb1.block _ (lt_of_heap HL.out)).trans HL.out);replace LA := hid (LA.out.far hb1);have LB := hid lb;clear hb1 hg hp lb;obtain ⟨k1, k2, kb⟩ := newL2 w8 (.cells #[.int .i64 s1, .slice a1 n1 c1, .string t1] 26) (.cells #[.int .i64 s2, .slice a2 n2 c2, .string t2] 26);replace HB := hid (HB.out.trans (kb.mono HB.out.size));replace HL := hid ((kb.block _ (lt_of_heap HL.out)).trans HL.out);replace LA := hid (LA.out.far kb);replace LB := hid (LB.out.far kb);have HXA := hid k1;have HXB := hid k2;clear k1 k2 kb
   go_upto_region 4 with fail
   generalize (w8.alloc (.cells #[.int .i64 s1, .slice a1 n1 c1, .string t1] 26)).alloc (.cells #[.int .i64 s2, .slice a2 n2 c2, .string t2] 26) = w9 at *;generalize w8.heap.size = S at *;have hal := alloc_far w9 (.cells #[.string ⟨#[117]⟩, .string ⟨#[118]⟩, .string ⟨#[120]⟩, .string ⟨#[121]⟩, .string name] 9);have hx5 := heap_alloc_new w9 (.cells #[.string ⟨#[117]⟩, .string ⟨#[118]⟩, .string ⟨#[120]⟩, .string ⟨#[121]⟩, .string name] 9);replace HB := hid (HB.out.trans (hal.mono HB.out.size));replace HL := hid ((hal.block _ (lt_of_heap HL.out)).trans HL.out);replace LA := hid (LA.out.far hal);replace LB := hid (LB.out.far hal);replace HXA := hid ((hal.block _ (lt_of_heap HXA.out)).trans HXA.out);replace HXB := hid ((hal.block _ (lt_of_heap HXB.out)).trans HXB.out);have HX5 := hid hx5;clear hal hx5
   go_upto_region 5 with fail
   generalize w9.alloc (.cells #[.string ⟨#[117]⟩, .string ⟨#[118]⟩, .string ⟨#[120]⟩, .string ⟨#[121]⟩, .string name] 9) = w10 at *;generalize w9.heap.size = S5 at *
   go_wp2_with fail
   refine (modS z 5 _ (by decide) (by decide)).mono ?_;rintro e w11 ⟨a, ha0, ha1, rfl, rfl⟩;obtain ⟨j, rfl⟩ : ∃ j : Nat, a = (j : Int) := ⟨a.toNat, by omega⟩
   obtain ⟨tv, htv⟩ := five5 name j (by omega);have c5 := (heap_cell HX5.out j).trans htv;clear htv;have p0 := heap_cell HXA.out 0;have p1' := heap_cell HXA.out 1;have p2' := heap_cell HXA.out 2;have q0 := heap_cell HXB.out 0;have q1 := heap_cell HXB.out 1;have q2 := heap_cell HXB.out 2
   go_wp2_with fail
   clear c5 HX5 ha0 ha1;obtain ⟨nm, hnm⟩ : ∃ nm : List UInt8, (⟨nm.toArray⟩ : ByteArray) = tv := ⟨tv.data.toList, by simp⟩
   subst hnm;refine (addDrawn LA.out LB.out HS1.out HS2.out (HE.out.far HB.out)).mono ?_;intro e w12 hp;obtain ⟨e1, x1, rs1, er1, ao, g, off, cap, rfl, hc, hres, hb⟩ := addP_res hp;have HRES := hid hres;have HR1x := hid (REB.new (s := e1) (tc := x1) hc);replace HB := hid (HB.out.trans (hb.mono HB.out.size));replace HL := hid ((hb.block _ (lt_of_heap HL.out)).trans HL.out);replace LA := hid (LA.out.far hb);replace LB := hid (LB.out.far hb);replace HXA := hid ((hb.block _ (lt_of_heap HXA.out)).trans HXA.out);replace HXB := hid ((hb.block _ (lt_of_heap HXB.out)).trans HXB.out);have hal := alloc_far w12 (.cells #[.int .i64 e1, .slice ao rs1.length cap, .string x1] 26);replace HB := hid (HB.out.trans (hal.mono HB.out.size));replace HL := hid ((hal.block _ (lt_of_heap HL.out)).trans HL.out);replace LA := hid (LA.out.far hal);replace LB := hid (LB.out.far hal);replace HXA := hid ((hal.block _ (lt_of_heap HXA.out)).trans HXA.out);replace HXB := hid ((hal.block _ (lt_of_heap HXB.out)).trans HXB.out);clear hp hb hal hc hres p0 p1' p2' q0 q1 q2
   go_upto_region 7 with fail
   generalize w12.alloc (.cells #[.int .i64 e1, .slice ao rs1.length cap, .string x1] 26) = w13 at *;generalize w12.heap.size = T0 at *;have p0 := heap_cell HXA.out 0;have p1' := heap_cell HXA.out 1;have p2' := heap_cell HXA.out 2;have q0 := heap_cell HXB.out 0;have q1 := heap_cell HXB.out 1;have q2 := heap_cell HXB.out 2
   go_wp2_with fail
   refine (refAddDrawn LA.out LB.out HS1.out HS2.out).mono ?_;intro e w14 hp;obtain ⟨e1, x1, rs1, er1, ao, g, off, cap, rfl, hc, hres, hb⟩ := addP_res hp;obtain ⟨rfl, rfl, rfl, rfl⟩ := Res.uniq HRES.out hres;have HR1y := hid (REB.new (s := e1) (tc := x1) hc);replace HB := hid (HB.out.trans (hb.mono HB.out.size));replace HL := hid ((hb.block _ (lt_of_heap HL.out)).trans HL.out);replace LA := hid (LA.out.far hb);replace LB := hid (LB.out.far hb);replace HXA := hid ((hb.block _ (lt_of_heap HXA.out)).trans HXA.out);replace HXB := hid ((hb.block _ (lt_of_heap HXB.out)).trans HXB.out);replace HR1x := hid (HR1x.out.far hb);have hal := alloc_far w14 (.cells #[.int .i64 e1, .slice ao rs1.length cap, .string x1] 26);replace HB := hid (HB.out.trans (hal.mono HB.out.size));replace HL := hid ((hal.block _ (lt_of_heap HL.out)).trans HL.out);replace LA := hid (LA.out.far hal);replace LB := hid (LB.out.far hal);replace HXA := hid ((hal.block _ (lt_of_heap HXA.out)).trans HXA.out);replace HXB := hid ((hal.block _ (lt_of_heap HXB.out)).trans HXB.out);replace HR1x := hid (HR1x.out.far hal);clear hp hb hal hc hres p0 p1' p2' q0 q1 q2 HRES
   go_upto_region 8 with fail
   generalize w14.alloc (.cells #[.int .i64 e1, .slice ao rs1.length cap, .string x1] 26) = w15 at *;generalize w14.heap.size = T1 at *;have r0 := heap_cell HL.out 0;have r1 := heap_cell HL.out 1;have r2 := heap_cell HL.out 2;have p0 := heap_cell HXA.out 0;have p1' := heap_cell HXA.out 1;have p2' := heap_cell HXA.out 2
   go_wp2_with fail
   refine (HRA.out _ _ _ _ _ HB.out LA.out HS1.out).mono ?_;intro e w16 hp;obtain ⟨e2, x2, rs2, er2, ao, g, off, cap, rfl, hc, hres, hb⟩ := addP_res hp;have HRES := hid hres;have HR2x := hid (REB.new (s := e2) (tc := x2) hc);replace HB := hid (HB.out.trans (hb.mono HB.out.size));replace HL := hid ((hb.block _ (lt_of_heap HL.out)).trans HL.out);replace LA := hid (LA.out.far hb);replace LB := hid (LB.out.far hb);replace HXA := hid ((hb.block _ (lt_of_heap HXA.out)).trans HXA.out);replace HXB := hid ((hb.block _ (lt_of_heap HXB.out)).trans HXB.out);replace HR1x := hid (HR1x.out.far hb);replace HR1y := hid (HR1y.out.far hb);have hal := alloc_far w16 (.cells #[.int .i64 e2, .slice ao rs2.length cap, .string x2] 26);replace HB := hid (HB.out.trans (hal.mono HB.out.size));replace HL := hid ((hal.block _ (lt_of_heap HL.out)).trans HL.out);replace LA := hid (LA.out.far hal);replace LB := hid (LB.out.far hal);replace HXA := hid ((hal.block _ (lt_of_heap HXA.out)).trans HXA.out);replace HXB := hid ((hal.block _ (lt_of_heap HXB.out)).trans HXB.out);replace HR1x := hid (HR1x.out.far hal);replace HR1y := hid (HR1y.out.far hal);clear hp hb hal hc hres r0 r1 r2 p0 p1' p2'
   go_upto_region 9 with fail
   generalize w16.alloc (.cells #[.int .i64 e2, .slice ao rs2.length cap, .string x2] 26) = w17 at *;generalize w16.heap.size = T2 at *;have r0 := heap_cell HL.out 0;have r1 := heap_cell HL.out 1;have r2 := heap_cell HL.out 2;have p0 := heap_cell HXA.out 0;have p1' := heap_cell HXA.out 1;have p2' := heap_cell HXA.out 2
   go_wp2_with fail
   refine (HRB.out _ _ _ _ _ HB.out LA.out HS1.out).mono ?_;intro e w18 hp;obtain ⟨e2, x2, rs2, er2, ao, g, off, cap, rfl, hc, hres, hb⟩ := addP_res hp;obtain ⟨rfl, rfl, rfl, rfl⟩ := Res.uniq HRES.out hres;have HR2y := hid (REB.new (s := e2) (tc := x2) hc);replace HB := hid (HB.out.trans (hb.mono HB.out.size));replace HL := hid ((hb.block _ (lt_of_heap HL.out)).trans HL.out);replace LA := hid (LA.out.far hb);replace LB := hid (LB.out.far hb);replace HXA := hid ((hb.block _ (lt_of_heap HXA.out)).trans HXA.out);replace HXB := hid ((hb.block _ (lt_of_heap HXB.out)).trans HXB.out);replace HR1x := hid (HR1x.out.far hb);replace HR1y := hid (HR1y.out.far hb);replace HR2x := hid (HR2x.out.far hb);have hal := alloc_far w18 (.cells #[.int .i64 e2, .slice ao rs2.length cap, .string x2] 26);replace HB := hid (HB.out.trans (hal.mono HB.out.size));replace HL := hid ((hal.block _ (lt_of_heap HL.out)).trans HL.out);replace LA := hid (LA.out.far hal);replace LB := hid (LB.out.far hal);replace HXA := hid ((hal.block _ (lt_of_heap HXA.out)).trans HXA.out);replace HXB := hid ((hal.block _ (lt_of_heap HXB.out)).trans HXB.out);replace HR1x := hid (HR1x.out.far hal);replace HR1y := hid (HR1y.out.far hal);replace HR2x := hid (HR2x.out.far hal);clear hp hb hal hc hres r0 r1 r2 p0 p1' p2' HRES
   go_upto_region 10 with fail
   generalize w18.alloc (.cells #[.int .i64 e2, .slice ao rs2.length cap, .string x2] 26) = w19 at *;generalize w18.heap.size = T3 at *;have p0 := heap_cell HXA.out 0;have p1' := heap_cell HXA.out 1;have p2' := heap_cell HXA.out 2
   go_wp2_with fail
   refine (scaleP LA.out HS1.out k HK.out (HE.out.far HB.out)).mono ?_;intro e w20 hp;obtain ⟨e3, x3, rs3, er3, ao, g, off, cap, rfl, hc, hres, hb⟩ := addP_res hp;have HRES := hid hres;have HR3x := hid (REB.new (s := e3) (tc := x3) hc);replace HB := hid (HB.out.trans (hb.mono HB.out.size));replace HL := hid ((hb.block _ (lt_of_heap HL.out)).trans HL.out);replace LA := hid (LA.out.far hb);replace LB := hid (LB.out.far hb);replace HXA := hid ((hb.block _ (lt_of_heap HXA.out)).trans HXA.out);replace HXB := hid ((hb.block _ (lt_of_heap HXB.out)).trans HXB.out);replace HR1x := hid (HR1x.out.far hb);replace HR1y := hid (HR1y.out.far hb);replace HR2x := hid (HR2x.out.far hb);replace HR2y := hid (HR2y.out.far hb);have hal := alloc_far w20 (.cells #[.int .i64 e3, .slice ao rs3.length cap, .string x3] 26);replace HB := hid (HB.out.trans (hal.mono HB.out.size));replace HL := hid ((hal.block _ (lt_of_heap HL.out)).trans HL.out);replace LA := hid (LA.out.far hal);replace LB := hid (LB.out.far hal);replace HXA := hid ((hal.block _ (lt_of_heap HXA.out)).trans HXA.out);replace HXB := hid ((hal.block _ (lt_of_heap HXB.out)).trans HXB.out);replace HR1x := hid (HR1x.out.far hal);replace HR1y := hid (HR1y.out.far hal);replace HR2x := hid (HR2x.out.far hal);replace HR2y := hid (HR2y.out.far hal);clear hp hb hal hc hres p0 p1' p2'
   go_upto_region 11 with fail
   generalize w20.alloc (.cells #[.int .i64 e3, .slice ao rs3.length cap, .string x3] 26) = w21 at *;generalize w20.heap.size = T4 at *;have p0 := heap_cell HXA.out 0;have p1' := heap_cell HXA.out 1;have p2' := heap_cell HXA.out 2
   go_wp2_with fail
   refine (refScaleP LA.out HS1.out k HK.out).mono ?_;intro e w22 hp;obtain ⟨e3, x3, rs3, er3, ao, g, off, cap, rfl, hc, hres, hb⟩ := addP_res hp;obtain ⟨rfl, rfl, rfl, rfl⟩ := Res.uniq HRES.out hres;have HR3y := hid (REB.new (s := e3) (tc := x3) hc);replace HB := hid (HB.out.trans (hb.mono HB.out.size));replace HL := hid ((hb.block _ (lt_of_heap HL.out)).trans HL.out);replace LA := hid (LA.out.far hb);replace LB := hid (LB.out.far hb);replace HXA := hid ((hb.block _ (lt_of_heap HXA.out)).trans HXA.out);replace HXB := hid ((hb.block _ (lt_of_heap HXB.out)).trans HXB.out);replace HR1x := hid (HR1x.out.far hb);replace HR1y := hid (HR1y.out.far hb);replace HR2x := hid (HR2x.out.far hb);replace HR2y := hid (HR2y.out.far hb);replace HR3x := hid (HR3x.out.far hb);have hal := alloc_far w22 (.cells #[.int .i64 e3, .slice ao rs3.length cap, .string x3] 26);replace HB := hid (HB.out.trans (hal.mono HB.out.size));replace HL := hid ((hal.block _ (lt_of_heap HL.out)).trans HL.out);replace LA := hid (LA.out.far hal);replace LB := hid (LB.out.far hal);replace HXA := hid ((hal.block _ (lt_of_heap HXA.out)).trans HXA.out);replace HXB := hid ((hal.block _ (lt_of_heap HXB.out)).trans HXB.out);replace HR1x := hid (HR1x.out.far hal);replace HR1y := hid (HR1y.out.far hal);replace HR2x := hid (HR2x.out.far hal);replace HR2y := hid (HR2y.out.far hal);replace HR3x := hid (HR3x.out.far hal);clear hp hb hal hc hres p0 p1' p2' HRES
   go_upto_region 12 with fail
   generalize w22.alloc (.cells #[.int .i64 e3, .slice ao rs3.length cap, .string x3] 26) = w23 at *;generalize w22.heap.size = T5 at *;have p0 := heap_cell HXA.out 0;have p1' := heap_cell HXA.out 1;have p2' := heap_cell HXA.out 2;have q0 := heap_cell HXB.out 0;have q1 := heap_cell HXB.out 1;have q2 := heap_cell HXB.out 2
   go_wp2_with fail
   refine (replaceP nm LA.out LB.out HS1.out HS2.out (HE.out.far HB.out)).mono ?_;intro e w24 hp;obtain ⟨e4, x4, rs4, er4, ao, g, off, cap, rfl, hc, hres, hb⟩ := addP_res hp;have HRES := hid hres;have HR4x := hid (REB.new (s := e4) (tc := x4) hc);replace HB := hid (HB.out.trans (hb.mono HB.out.size));replace HL := hid ((hb.block _ (lt_of_heap HL.out)).trans HL.out);replace LA := hid (LA.out.far hb);replace LB := hid (LB.out.far hb);replace HXA := hid ((hb.block _ (lt_of_heap HXA.out)).trans HXA.out);replace HXB := hid ((hb.block _ (lt_of_heap HXB.out)).trans HXB.out);replace HR1x := hid (HR1x.out.far hb);replace HR1y := hid (HR1y.out.far hb);replace HR2x := hid (HR2x.out.far hb);replace HR2y := hid (HR2y.out.far hb);replace HR3x := hid (HR3x.out.far hb);replace HR3y := hid (HR3y.out.far hb);have hal := alloc_far w24 (.cells #[.int .i64 e4, .slice ao rs4.length cap, .string x4] 26);replace HB := hid (HB.out.trans (hal.mono HB.out.size));replace HL := hid ((hal.block _ (lt_of_heap HL.out)).trans HL.out);replace LA := hid (LA.out.far hal);replace LB := hid (LB.out.far hal);replace HXA := hid ((hal.block _ (lt_of_heap HXA.out)).trans HXA.out);replace HXB := hid ((hal.block _ (lt_of_heap HXB.out)).trans HXB.out);replace HR1x := hid (HR1x.out.far hal);replace HR1y := hid (HR1y.out.far hal);replace HR2x := hid (HR2x.out.far hal);replace HR2y := hid (HR2y.out.far hal);replace HR3x := hid (HR3x.out.far hal)
   replace HR3y := hid (HR3y.out.far hal);clear hp hb hal hc hres p0 p1' p2' q0 q1 q2
   go_upto_region 13 with fail
   generalize w24.alloc (.cells #[.int .i64 e4, .slice ao rs4.length cap, .string x4] 26) = w25 at *;generalize w24.heap.size = T6 at *;have p0 := heap_cell HXA.out 0;have p1' := heap_cell HXA.out 1;have p2' := heap_cell HXA.out 2;have q0 := heap_cell HXB.out 0;have q1 := heap_cell HXB.out 1;have q2 := heap_cell HXB.out 2
   go_wp2_with fail
   refine (refReplaceP nm LA.out LB.out HS1.out HS2.out).mono ?_;intro e w26 hp;obtain ⟨e4, x4, rs4, er4, ao, g, off, cap, rfl, hc, hres, hb⟩ := addP_res hp;obtain ⟨rfl, rfl, rfl, rfl⟩ := Res.uniq HRES.out hres;have HR4y := hid (REB.new (s := e4) (tc := x4) hc);replace HB := hid (HB.out.trans (hb.mono HB.out.size));replace HL := hid ((hb.block _ (lt_of_heap HL.out)).trans HL.out);replace LA := hid (LA.out.far hb);replace LB := hid (LB.out.far hb);replace HXA := hid ((hb.block _ (lt_of_heap HXA.out)).trans HXA.out);replace HXB := hid ((hb.block _ (lt_of_heap HXB.out)).trans HXB.out);replace HR1x := hid (HR1x.out.far hb);replace HR1y := hid (HR1y.out.far hb);replace HR2x := hid (HR2x.out.far hb);replace HR2y := hid (HR2y.out.far hb);replace HR3x := hid (HR3x.out.far hb);replace HR3y := hid (HR3y.out.far hb);replace HR4x := hid (HR4x.out.far hb);have hal := alloc_far w26 (.cells #[.int .i64 e4, .slice ao rs4.length cap, .string x4] 26);replace HB := hid (HB.out.trans (hal.mono HB.out.size));replace HL := hid ((hal.block _ (lt_of_heap HL.out)).trans HL.out);replace LA := hid (LA.out.far hal);replace LB := hid (LB.out.far hal);replace HXA := hid ((hal.block _ (lt_of_heap HXA.out)).trans HXA.out);replace HXB := hid ((hal.block _ (lt_of_heap HXB.out)).trans HXB.out);replace HR1x := hid (HR1x.out.far hal);replace HR1y := hid (HR1y.out.far hal);replace HR2x := hid (HR2x.out.far hal)
   replace HR2y := hid (HR2y.out.far hal);replace HR3x := hid (HR3x.out.far hal);replace HR3y := hid (HR3y.out.far hal);replace HR4x := hid (HR4x.out.far hal);clear hp hb hal hc hres p0 p1' p2' q0 q1 q2 HRES
   go_upto_region 14 with fail
   generalize w26.alloc (.cells #[.int .i64 e4, .slice ao rs4.length cap, .string x4] 26) = w27 at *;generalize w26.heap.size = T7 at *;clear HL LA LB HXA HXB HRA HRB HK HS1 HS2;obtain ⟨ao1, g1, of1, cp1, hx1, hc1⟩ := HR1x.out;obtain ⟨bo1, f1, ff1, dp1, hy1, hd1⟩ := HR1y.out;have p0 := heap_cell hx1 0;have p1' := heap_cell hx1 1;have p2' := heap_cell hx1 2;have q0 := heap_cell hy1 0;have q1 := heap_cell hy1 1;have q2 := heap_cell hy1 2;have HC1 := hid hc1;have HD1 := hid hd1;clear hx1 hy1 hc1 hd1 HR1x HR1y
   go_wp2_with fail
   refine (same_ok _ e1 rs1 x1 _ _ _ _ _ _ _ _ HC1.out HD1.out).mono ?_;rintro e v1 ⟨rfl, hb⟩;replace HB := hid (HB.out.trans (hb.mono HB.out.size));replace HR2x := hid (HR2x.out.far hb);replace HR2y := hid (HR2y.out.far hb);replace HR3x := hid (HR3x.out.far hb);replace HR3y := hid (HR3y.out.far hb);replace HR4x := hid (HR4x.out.far hb);replace HR4y := hid (HR4y.out.far hb);clear hb p0 p1' p2' q0 q1 q2 HC1 HD1;obtain ⟨ao2, g2, of2, cp2, hx2, hc2⟩ := HR2x.out;obtain ⟨bo2, f2, ff2, dp2, hy2, hd2⟩ := HR2y.out;have p0 := heap_cell hx2 0;have p1' := heap_cell hx2 1;have p2' := heap_cell hx2 2;have q0 := heap_cell hy2 0;have q1 := heap_cell hy2 1;have q2 := heap_cell hy2 2;have HC1 := hid hc2;have HD1 := hid hd2;clear hx2 hy2 hc2 hd2 HR2x HR2y
   go_wp2_with fail
   refine (same_ok _ e2 rs2 x2 _ _ _ _ _ _ _ _ HC1.out HD1.out).mono ?_;rintro e v2 ⟨rfl, hb⟩;replace HB := hid (HB.out.trans (hb.mono HB.out.size));replace HR3x := hid (HR3x.out.far hb);replace HR3y := hid (HR3y.out.far hb);replace HR4x := hid (HR4x.out.far hb);replace HR4y := hid (HR4y.out.far hb);clear hb p0 p1' p2' q0 q1 q2 HC1 HD1;obtain ⟨ao3, g3, of3, cp3, hx3, hc3⟩ := HR3x.out;obtain ⟨bo3, f3, ff3, dp3, hy3, hd3⟩ := HR3y.out;have p0 := heap_cell hx3 0;have p1' := heap_cell hx3 1;have p2' := heap_cell hx3 2;have q0 := heap_cell hy3 0;have q1 := heap_cell hy3 1;have q2 := heap_cell hy3 2;have HC1 := hid hc3;have HD1 := hid hd3;clear hx3 hy3 hc3 hd3 HR3x HR3y
   go_wp2_with fail
   refine (same_ok _ e3 rs3 x3 _ _ _ _ _ _ _ _ HC1.out HD1.out).mono ?_;rintro e v3 ⟨rfl, hb⟩;replace HB := hid (HB.out.trans (hb.mono HB.out.size));replace HR4x := hid (HR4x.out.far hb);replace HR4y := hid (HR4y.out.far hb);clear hb p0 p1' p2' q0 q1 q2 HC1 HD1;obtain ⟨ao4, g4, of4, cp4, hx4, hc4⟩ := HR4x.out;obtain ⟨bo4, f4, ff4, dp4, hy4, hd4⟩ := HR4y.out;have p0 := heap_cell hx4 0;have p1' := heap_cell hx4 1;have p2' := heap_cell hx4 2;have q0 := heap_cell hy4 0;have q1 := heap_cell hy4 1;have q2 := heap_cell hy4 2;have HC1 := hid hc4;have HD1 := hid hd4;clear hx4 hy4 hc4 hd4 HR4x HR4y
   go_wp2_with fail
   refine (same_ok _ e4 rs4 x4 _ _ _ _ _ _ _ _ HC1.out HD1.out).mono ?_;rintro e v4 ⟨rfl, hb⟩;replace HB := hid (HB.out.trans (hb.mono HB.out.size));clear hb p0 p1' p2' q0 q1 q2 HC1 HD1
   go_wp2_with fail
   refine (awakeL _ (HE.out.far HB.out)).mono ?_;rintro e wk ⟨rfl, hb1⟩;replace HB := hid (HB.out.trans (hb1.mono HB.out.size));clear hb1
   go_wp2
   go_ret
   exact ⟨rfl, HB.out⟩
end Go.Proofs.YteoklapcifonaaaGreatDoor
namespace Go.Proofs.YteoklapcifonaaaGreatDoor
open Go.ChangeShapes Go.WideShapes Go.ChangeAt Go.RowKit Go.ChangeMaps
theorem cells_str1 : Tryz.prog.cellsOf 9 = 1 := by kernel_rfl
theorem cells_coef2 : Tryz.prog.cellsOf 79 = 2 := by kernel_rfl
theorem cells_coefs1 : Tryz.prog.cellsOf 24 = 1 := by kernel_rfl
theorem cells_lin3 : Tryz.prog.cellsOf 26 = 3 := by kernel_rfl
theorem okWide_struct {P : Program} {w : World} {r : Reach} {base : Nat} {t : TypeId} {v : Value} {fs : Array Field} (ht : P.underlying t = some (.struct fs)) (h : Value.okWide P w r base t v) : ∃ cs, v = .agg cs ∧ cs.size = P.cellsOf t := by
 unfold Value.okWide at h;rw [ht] at h;obtain ⟨cs, h1, h2, -⟩ := h;exact ⟨cs, h1, h2⟩
/-- the text in a value that is one -/
def strv : Value → ByteArray
 | .string s => s
 | _ => ⟨#[]⟩
section
variable {H : Type} {enc : TypeId × Value → H} {W : World} {fuel : Nat} {cs : List Value} {x : DataW H × List MemPlace}
theorem arg_coefs (h : DataW.trod enc Tryz.prog W 0 (fun _ => true) true fuel 24 cs = some x) : ∃ ao n cap g off rs, cs = [.slice ao n cap] ∧ rs.length = n ∧ RSl W ao g off cap rs := by
 rcases Go.Deep.open_slice_pairs Tryz.underlying24 Tryz.underlying79 cells_coef2 rfl rfl cells_str1 cells_str1 h with ⟨hcs, -⟩ | ⟨a, len, cap, m, n, V0, V1, D0, D1, P0, P1, hcs, -, hl, hm, hmm, -, hx⟩
 · exact ⟨none, 0, 0, 0, 0, [], hcs, rfl, ⟨Nat.le_refl _, Nat.zero_le _, fun h => absurd h (Nat.lt_irrefl _), fun i hi => absurd hi (Nat.not_lt_zero i), fun i hi => absurd hi (Nat.not_lt_zero i)⟩⟩
 · rw [if_pos rfl] at hmm;subst hmm
   have hc : ∀ i, i < m → W.cell? (a.add (i * 2)) = some (.string (strv (V0 i))) ∧ W.cell? (a.add (i * 2 + 1)) = some (.string (strv (V1 i))) := fun i hi => by
    obtain ⟨h1, h2, h3, h4⟩ := hx i hi;obtain ⟨s, e3, -, -⟩ := DataW.trod_string Tryz.underlying9 h3;obtain ⟨u, e4, -, -⟩ := DataW.trod_string Tryz.underlying9 h4;injection e3 with e3;injection e4 with e4;rw [h1, h2, e3, e4];exact ⟨rfl, rfl⟩
   by_cases h0 : m = 0
   · subst h0;have hl0 : len = 0 := by omega
     subst hl0;exact ⟨some a, 0, 0, 0, 0, [], hcs, rfl, ⟨Nat.le_refl _, Nat.zero_le _, fun h => absurd h (Nat.lt_irrefl _), fun i hi => absurd hi (Nat.not_lt_zero i), fun i hi => absurd hi (Nat.not_lt_zero i)⟩⟩
   · obtain ⟨b, off, spot⟩ := a;have hspot : spot = none := by simpa [Addr.add] using World.cell?_spot (hc 0 (by omega)).1
     subst hspot;have hll : ((List.range len).map fun i => (strv (V0 i), strv (V1 i))).length = len := by rw [List.length_map, List.length_range]
     refine ⟨some ⟨b, off, none⟩, len, m, b, off, (List.range len).map fun i => (strv (V0 i), strv (V1 i)), hcs, hll, ⟨by rw [hll]; exact hl, Nat.le_trans hm (by decide), fun _ => rfl, fun i hi => ?_, fun i hi => ?_⟩⟩
     all_goals
      rw [hll] at hi;have h2 := hc i (by omega);rw [add_plain, add_plain] at h2;rw [List.getElem_map, List.getElem_range]
      first | exact h2.1 | exact h2.2
set_option maxRecDepth 100000 in
theorem arg_linear (h : DataW.trod enc Tryz.prog W 0 (fun _ => true) true fuel 26 cs = some x) : ∃ s ao n cap t g off rs, cs = [.int .i64 s, .slice ao n cap, .string t] ∧ rs.length = n ∧ RSl W ao g off cap rs := by
 obtain ⟨xs, k, -, -, hlen, hxl, hf⟩ := DataW.trod_struct Tryz.underlying26 h;rw [cells_lin3] at hlen
 match cs, hlen, xs, hxl with
 | [c0, c1, c2], _, [y0, y1, y2], _ =>
   have g0 := hf 0 _ rfl;have g1 := hf 1 _ rfl;have g2 := hf 2 _ rfl
   simp [cells_int, cells_coefs1, cells_str1] at g0 g1 g2
   obtain ⟨s, e0, -, -⟩ := DataW.trod_int Tryz.underlying3 (show DataW.trod enc Tryz.prog W 0 (fun _ => true) true k 3 [c0] = some y0 from g0);obtain ⟨ao, n, cap, g, off, rs, e1, hn, hr⟩ := arg_coefs (show DataW.trod enc Tryz.prog W 0 (fun _ => true) true k 24 [c1] = some y1 from g1);obtain ⟨t, e2, -, -⟩ := DataW.trod_string Tryz.underlying9 (show DataW.trod enc Tryz.prog W 0 (fun _ => true) true k 9 [c2] = some y2 from g2);injection e0 with e0;injection e1 with e1;injection e2 with e2;exact ⟨s, ao, n, cap, t, g, off, rs, by rw [e0, e1, e2], hn, hr⟩
end
namespace Opers
set_option maxRecDepth 100000 in
theorem contract (H : Type) (enc : TypeId × Value → H) (W : World) (base : Nat) (args : Array Value) (ds gs : List (DataW H)) (before : List MemPlace)
    (hval : ∀ (j : Nat) t v, Tryz.f8.params[j]? = some t → args[j]? = some v → Value.okWide Tryz.prog W .any base t v)
    (hW : DataW.Whole enc Tryz.prog Tryz.f8.params.toList Rows.linearOperationsSpec.vars false W args.toList ds gs before)
    (hL : laidMet Tryz.prog lays W) (hsh : W.ShapedOpen Tryz.prog) :
    Calls Tryz.prog 8 args W fun e W' => ∃ v, e = .returned v ∧ Rows.linearOperationsSpec.post enc Tryz.prog Tryz.f8 false true false false W args v W' := by
 have hW' := hW;obtain ⟨p, q, hA0, hV, rfl, hfz, hnd⟩ := hW;have hA : DataW.TrodAll enc Tryz.prog W 0 (fun _ => true) true Tryz.f8.params.toList args.toList ds p := hA0;rw [Tryz.params8] at hA hval;obtain ⟨v0, vs0, d0, ds0, p0, q0, hargs, rfl, rfl, h0, r0⟩ := trodAll_cons hA;obtain ⟨v1, vs1, d1, ds1, p1, q1, rfl, rfl, rfl, h1, r1⟩ := trodAll_cons r0;obtain ⟨v2, vs2, d2, ds2, p2, q2, rfl, rfl, rfl, h2, r2⟩ := trodAll_cons r1;obtain ⟨v3, vs3, d3, ds3, p3, q3, rfl, rfl, rfl, h3, r3⟩ := trodAll_cons r2;obtain ⟨v4, vs4, d4, ds4, p4, q4, rfl, rfl, rfl, h4, r4⟩ := trodAll_cons r3;obtain ⟨v5, vs5, d5, ds5, p5, q5, rfl, rfl, rfl, h5, r5⟩ := trodAll_cons r4;obtain ⟨rfl, rfl, rfl⟩ := trodAll_nil r5;obtain rfl : args = #[v0, v1, v2, v3, v4, v5] := by cases args; simp_all
 obtain ⟨rfl, rfl⟩ := trodVars_none hV;obtain ⟨a0, len0, cap0, rfl⟩ := okWide_slice Tryz.underlying22 (hval 0 22 v0 rfl rfl);have h0k := h0;obtain ⟨a1, len1, cap1, rfl⟩ := okWide_slice Tryz.underlying22 (hval 1 22 v1 rfl rfl);have h1k := h1;obtain ⟨cs2, rfl, -⟩ := okWide_struct Tryz.underlying26 (hval 2 26 v2 rfl rfl);have h2k := h2;obtain ⟨f2, hf2⟩ := h2;obtain ⟨e2, b2, m2, c2, t2, g2, o2, rs2, ee2, hn2, hr2⟩ := arg_linear hf2
 obtain rfl : cs2 = #[.int .i64 e2, .slice b2 m2 c2, .string t2] := by
  have e : cs2.toList = [.int .i64 e2, .slice b2 m2 c2, .string t2] := ee2;rw [← Array.toArray_toList (xs := cs2), e]
 obtain ⟨s3, rfl, rfl, rfl, hs3⟩ := open_string Tryz.underlying9 (hval 3 9 v3 rfl rfl) h3;obtain ⟨s4, rfl, rfl, rfl, hs4⟩ := open_string Tryz.underlying9 (hval 4 9 v4 rfl rfl) h4;obtain ⟨n0, rfl, rfl, rfl, hwf0⟩ := open_int Tryz.underlying3 (hval 5 3 v5 rfl rfl) h5;clear hA0;simp only [List.append_nil] at hW';have hlt : ∀ x ∈ p0 ++ (p1 ++ p2), x.block < W.heap.size := fun x hx => by simpa using hW'.lt x hx
 have harg0 : ∀ (W' : World) (sp : Nat → Bool), Below W.heap.size W W' → (∀ p ∈ p0, sp p.block = true) → DataW.Trod enc Tryz.prog W' 0 sp true 22 (.slice a0 len0 cap0) d0 p0 :=
  fun W' sp hn hsp => WideElems.Trod_stays (P := Tryz.prog) lm_laidOut (by kernel_rfl) (of_decide_eq_true (by kernel_rfl)) h0k (fun x hx => hn.same (hlt x (List.mem_append.2 (.inl hx)))) hsp
 have harg1 : ∀ (W' : World) (sp : Nat → Bool), Below W.heap.size W W' → (∀ p ∈ p1, sp p.block = true) → DataW.Trod enc Tryz.prog W' 0 sp true 22 (.slice a1 len1 cap1) d1 p1 :=
  fun W' sp hn hsp => WideElems.Trod_stays (P := Tryz.prog) lm_laidOut (by kernel_rfl) (of_decide_eq_true (by kernel_rfl)) h1k (fun x hx => hn.same (hlt x (List.mem_append.2 (.inr (List.mem_append.2 (.inl hx)))))) hsp
 have harg2 : ∀ (W' : World) (sp : Nat → Bool), Below W.heap.size W W' → (∀ p ∈ p2, sp p.block = true) → DataW.Trod enc Tryz.prog W' 0 sp true 26 (.agg #[.int .i64 e2, .slice b2 m2 c2, .string t2]) d2 p2 :=
  fun W' sp hn hsp => WideElems.Trod_stays (P := Tryz.prog) lm_laidOut (by kernel_rfl) (of_decide_eq_true (by kernel_rfl)) h2k (fun x hx => hn.same (hlt x (List.mem_append.2 (.inr (List.mem_append.2 (.inr hx)))))) hsp
 refine (lawOps_any a0 len0 cap0 a1 len1 cap1 e2 b2 g2 o2 m2 c2 t2 rs2 s3 s4 n0 W (env_of hsh hL) (arg_ints h0k) (arg_ints h1k) hr2 hn2).mono fun e W' ⟨he, hg⟩ => ?_
 subst he
 exact ⟨_, rfl, post_fresh (pa := p0 ++ (p1 ++ p2)) (pv := []) hW' (fun _ _ _ => trodAll_cons_mk (shut_bool Tryz.underlying4 _) trodAll_mk0) (fun sp hsp => by
     have t := trodAll_cons_mk (harg0 W' sp hg (fun p hp => hsp p (List.mem_append.2 (.inl hp)))) (trodAll_cons_mk (harg1 W' sp hg (fun p hp => hsp p (List.mem_append.2 (.inr (List.mem_append.2 (.inl hp)))))) (trodAll_cons_mk (harg2 W' sp hg (fun p hp => hsp p (List.mem_append.2 (.inr (List.mem_append.2 (.inr hp)))))) (trodAll_cons_mk (shut_string Tryz.underlying9 hs3) (trodAll_cons_mk (shut_string Tryz.underlying9 hs4) (trodAll_cons_mk (shut_int Tryz.underlying3 hwf0) trodAll_mk0)))));rw [show p0 ++ (p1 ++ (p2 ++ ([] ++ ([] ++ ([] ++ []))))) = p0 ++ (p1 ++ p2) by simp] at t
     exact t) (fun _ _ => rfl) (by simp)
  hg (ok_one (by kernel_rfl) rfl (okWide_bool_mk Tryz.underlying4 _))⟩
set_option maxRecDepth 100000 in
theorem laid_met (os : Os) : laidMet Tryz.prog Rows.linearOperationsRow.laid ((World.laidAll Tryz.prog os lays).forCall (fun _ _ => 0) ⟨#[], #[.slice none 0 0, .slice none 0 0, .agg #[.int .i64 0, .slice none 0 0, .string ⟨#[]⟩], .string ⟨#[]⟩, .string ⟨#[]⟩, .int .i64 0], []⟩).memory :=
 laidMet_laidAll (laid := lays) _ (by kernel_rfl) (by kernel_rfl)
set_option maxRecDepth 100000 in
theorem reads (os : Os) {H : Type} (enc : TypeId × Value → H) : ∃ places, DataW.whole enc Tryz.prog ((World.laidAll Tryz.prog os lays).forCall (fun _ _ => 0) ⟨#[], #[.slice none 0 0, .slice none 0 0, .agg #[.int .i64 0, .slice none 0 0, .string ⟨#[]⟩], .string ⟨#[]⟩, .string ⟨#[]⟩, .int .i64 0], []⟩).memory Tryz.f8.params.toList Rows.linearOperationsSpec.vars false #[Value.slice none 0 0, .slice none 0 0, .agg #[.int .i64 0, .slice none 0 0, .string ⟨#[]⟩], .string ⟨#[]⟩, .string ⟨#[]⟩, .int .i64 0].toList 8 = some ([.nil, .nil, .agg [.lit (.int .i64 0), .nil, .lit (.string [])], .lit (.string []), .lit (.string []), .lit (.int .i64 0)], [], places) :=
 ⟨[], by kernel_rfl⟩
set_option maxRecDepth 100000 in
theorem shaped0 (os : Os) : ((World.laidAll Tryz.prog os lays).forCall (fun _ _ => 0) ⟨#[], #[.slice none 0 0, .slice none 0 0, .agg #[.int .i64 0, .slice none 0 0, .string ⟨#[]⟩], .string ⟨#[]⟩, .string ⟨#[]⟩, .int .i64 0], []⟩).Shaped Tryz.prog := World.shaped_of_ZipB (by kernel_rfl) (by kernel_rfl)
set_option maxRecDepth 100000 in
theorem okay0 (os : Os) : Input.okWideB Tryz.prog ((World.laidAll Tryz.prog os lays).forCall (fun _ _ => 0) ⟨#[], #[.slice none 0 0, .slice none 0 0, .agg #[.int .i64 0, .slice none 0 0, .string ⟨#[]⟩], .string ⟨#[]⟩, .string ⟨#[]⟩, .int .i64 0], []⟩) 8 ⟨#[], #[.slice none 0 0, .slice none 0 0, .agg #[.int .i64 0, .slice none 0 0, .string ⟨#[]⟩], .string ⟨#[]⟩, .string ⟨#[]⟩, .int .i64 0], []⟩ = true := by kernel_rfl
set_option maxRecDepth 100000 in
theorem lifted (os : Os) (started : os.Started) (H : Type) (enc : TypeId × Value → H) (F : Stop.Interp) :
    ReturnsInHanded {} Tryz.checked os 8 .any ((OpenSpec.ofChange Rows.linearOperationsSpec).preRow enc Tryz.prog Tryz.f8 Rows.linearOperationsRow.domain false Rows.linearOperationsRow.laid) (((OpenSpec.ofChange Rows.linearOperationsSpec).at F).post enc Tryz.prog Tryz.f8 false true false false) := by
 obtain ⟨places, hx⟩ := reads os enc
 refine returnsInHanded_of_row (C := Tryz.checked) (s := OpenSpec.ofChange Rows.linearOperationsSpec) own started (by kernel_rfl) Tryz.func8
  (witness_zip (enc := enc) (C := Tryz.checked) (World.laidAll Tryz.prog os lays) #[.slice none 0 0, .slice none 0 0, .agg #[.int .i64 0, .slice none 0 0, .string ⟨#[]⟩], .string ⟨#[]⟩, .string ⟨#[]⟩, .int .i64 0] (World.laidAll_os _ _ _) (shaped0 os) (okay0 os)
    (OpenSpec.preRow_of_cond 8 hx (by kernel_rfl) (fun k hk => by cases hk) (by kernel_rfl) (laid_met os))) ?_
 intro W base args ds gs before hval hW _ _ _ hL hsh _;exact contract H enc W base args ds gs before hval hW hL hsh
set_option maxRecDepth 100000 in
theorem lm_plainKeys : Tryz.prog.plainKeys = Rows.linearOperationsRow.plainKeys := by kernel_rfl
set_option maxRecDepth 100000 in
theorem lm_lifted : Tryz.prog.liftsFinal = Rows.linearOperationsRow.lifted := by kernel_rfl
set_option maxRecDepth 100000 in
theorem lm_make : Tryz.prog.make = some Rows.linearOperationsRow.make := by kernel_rfl
set_option maxRecDepth 100000 in
theorem lm_inPlace : (Rows.linearOperationsRow.inPlace == Tryz.prog.inPlace 8) = true := by kernel_rfl
set_option maxRecDepth 100000 in
theorem lm_unfollowed : (Rows.linearOperationsRow.unfollowed == Tryz.prog.unfollowed 8) = true := by kernel_rfl
set_option maxRecDepth 100000 in
theorem lm_recurses : (Rows.linearOperationsRow.recurses == Tryz.prog.recurses 8) = true := by kernel_rfl
set_option maxRecDepth 100000 in
theorem lm_named : (Rows.linearOperationsRow.named == Tryz.prog.varsNamed 8) = true := by kernel_rfl
set_option maxRecDepth 100000 in
theorem facts : joinedFacts Tryz.prog 8 Tryz.f8 Rows.linearOperationsSpec Rows.linearOperationsRow = true := by
 unfold joinedFacts;rw [lm_laidOut, lm_maps, lm_plainKeys, lm_heard, lm_mayEnter, lm_lifted, lm_make, lm_inPlace, lm_unfollowed, lm_recurses, lm_named]
 kernel_rfl
set_option maxRecDepth 100000 in
theorem said : Rows.LinearOperationsSaid :=
 OpenClaim.holds_of_cond 8 Tryz.f8 rfl rfl rfl rfl rfl rfl rfl ⟨rfl, rfl, rfl, rfl, rfl⟩ rfl rfl rfl rfl rfl (by kernel_rfl) Tryz.func8 facts
  (of_decide_eq_true (by kernel_rfl)) (by unfold Func.isWrapper; first | (rw [if_pos (by decide +kernel)]; kernel_rfl) | (rw [if_neg (by decide +kernel)]; exact ⟨rfl, rfl⟩))
  (fun os started H enc _ F => by rw [OpenClaim.pre_eq_preRow]; exact lifted os started H enc F)
theorem plain (f : FuncId) (fn : Func) (hf : Tryz.pinned.checked.prog.funcNamed Rows.linearOperationsRow.func = some f) (hfn : Tryz.pinned.checked.prog.funcs[f]? = some fn) :
    true = Tryz.pinned.checked.prog.looks [] ∧ ∀ (j : Nat) t, fn.params[j]? = some t → Tryz.pinned.checked.prog.wantsStandIn t = false := by
 obtain rfl : f = 8 := Option.some.inj ((show Tryz.prog.funcNamed Rows.linearOperationsRow.func = some 8 by kernel_rfl).symm.trans hf) |>.symm;obtain rfl : fn = Tryz.f8 := (Option.some.inj (Tryz.func8.symm.trans hfn)).symm;refine ⟨by kernel_rfl, fun j t ht => ?_⟩;rw [Tryz.params8] at ht;have hm := Array.mem_of_getElem? ht;simp only [List.mem_toArray, List.mem_cons, List.not_mem_nil, or_false] at hm;rcases hm with rfl | rfl | rfl | rfl | rfl | rfl
 iterate 2
  · exact (show Tryz.prog.wantsStandIn 22 = false by kernel_rfl)
 · exact (show Tryz.prog.wantsStandIn 26 = false by kernel_rfl)
 iterate 2
  · exact (show Tryz.prog.wantsStandIn 9 = false by kernel_rfl)
 · exact (show Tryz.prog.wantsStandIn 3 = false by kernel_rfl)
/-- the card -/
theorem card : Rows.LinearOperationsCardSaid :=
 Claim7.holds_tied_plain_at .later [] _ _ _ _ said (fun _ h => by cases h) (by kernel_rfl) (fun _ h => by cases h) linearOperations_row_tie rfl ⟨rfl, rfl⟩ (by kernel_rfl) rfl plain (by kernel_rfl)
end Opers
end Go.Proofs.YteoklapcifonaaaGreatDoor

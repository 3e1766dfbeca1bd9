/- LinearNormal's walk. -/
import Derived.Test.YteoklapcifonaaaGreatDoorNKG
import Derived.Test.YteoklapcifonaaaGreatDoorNMO
import Derived.Test.YteoklapcifonaaaGreatDoorNLU
open Go.Lib (hid)
namespace Go.Proofs.YteoklapcifonaaaGreatDoor
open Go.RowKit Nmx
section
set_option maxRecDepth 100000
set_option maxHeartbeats 16000000
theorem lawNormal_any (al : Option Addr) (ll cl : Nat) (r s1 : Int) (a1 : Option Addr) (g1 o1 n1 c1 : Nat) (t1 tm : ByteArray) (rs1 : List (ByteArray × ByteArray)) (w : World) (hE : Env w) (hl : ArgI w al ll cl) (h1 : RSl w a1 g1 o1 c1 rs1) (hn1 : rs1.length = n1) (htm : tm.size ≤ 9223372036854775807) :
    Calls Tryz.prog 6 #[.slice al ll cl, .agg #[.int .i64 r, .int .i64 s1, .slice a1 n1 c1, .string t1, .string tm]] w fun e w' => e = .returned (.bool true) ∧ Below w.heap.size w w' := by
 have HE := hid hE;have HAl := hid hl;have hsm1 : ∀ W, Below w.heap.size w W → Calls Tryz.prog 28 #[.agg #[.int .i64 s1, .slice a1 n1 c1, .string t1]] W fun e w' => e = .returned (.bool (smallF rs1 t1)) ∧ Below W.heap.size W w' := fun W hW => by rw [← hn1]; exact small_any (h1.far hW)
 have hnr : smallF rs1 t1 = true → tm.size ≤ 40 → ∃ N : Nms, ∃ V p cs M, (∀ W, Below w.heap.size w W → Calls Tryz.prog 26 #[.agg #[.int .i64 r, .int .i64 s1, .slice a1 n1 c1, .string t1, .string tm]] W (@NormP N V r s1 p cs M 1100 W)) ∧ (∀ W, Below w.heap.size w W → Calls Tryz.prog 33 #[.agg #[.int .i64 r, .int .i64 s1, .slice a1 n1 c1, .string t1, .string tm]] W (@NormP N V r s1 p cs M 1100 W)) := fun h ht => by
  have hS := smallF_shrt h;rw [← hn1];exact ⟨rawN rs1 hS.1, _, _, _, _, fun W hW => normRaw (h1.far hW) hS ht (hE.far hW), fun W hW => refNormRaw (h1.far hW) hS ht⟩
 obtain ⟨m1, hm1⟩ : ∃ b, smallF rs1 t1 = b := ⟨_, rfl⟩
 rw [hm1] at hsm1 hnr;have HS1 := hid hsm1;have HNR := hid hnr;have hle1 := h1.le;have HC := hid (heap_alloc_new w (.cells #[.int .i64 r, .int .i64 s1, .slice a1 n1 c1, .string t1, .string tm] 39));have HB := hid (alloc_far w (.cells #[.int .i64 r, .int .i64 s1, .slice a1 n1 c1, .string t1, .string tm] 39));clear hE hl hsm1 hnr hm1 h1 hn1 hle1
 go_enter Tryz.func6, Tryz.ntmps6
 go_wp2_with fail
 generalize w.alloc (.cells #[.int .i64 r, .int .i64 s1, .slice a1 n1 c1, .string t1, .string tm] 39) = w1 at *;refine (HS1.out _ HB.out).mono ?_;rintro e w2 ⟨rfl, hb1⟩;replace HB := hid (HB.out.trans (hb1.mono HB.out.size));replace HC := hid ((hb1.block _ (ab HC.out)).trans HC.out);clear hb1;cases m1 with
 | false =>
   go_wp2_with fail
   refine (awakeL _ (HE.out.far HB.out)).mono ?_;rintro e wk ⟨rfl, hb1⟩;replace HB := hid (HB.out.trans (hb1.mono HB.out.size));clear hb1
   go_wp2
   go_ret
   exact ⟨rfl, HB.out⟩
 | true =>
   have p4 := aa HC.out 4
   by_cases h40 : 40 < tm.size
   · have hi40 : (40 : Int) < (tm.size : Int) := by omega
     go_wp2_with fail
     clear p4 hi40;refine (awakeL _ (HE.out.far HB.out)).mono ?_;rintro e wk ⟨rfl, hb1⟩;replace HB := hid (HB.out.trans (hb1.mono HB.out.size));clear hb1
     go_wp2
     go_ret
     exact ⟨rfl, HB.out⟩
   have hi40 : ¬ (40 : Int) < (tm.size : Int) := by omega
   have HT40 : Hid (tm.size ≤ 40) := hid (by omega)
   go_wp2_with fail
   clear p4 hi40 h40;refine (new_any al ll cl _ (HAl.out.far HB.out)).mono ?_;rintro e w3 ⟨rfl, rfl⟩
   go_wp2_with fail
   refine (constraint_any _ _ _ _ _ (ch_newL (HAl.out.far HB.out))).mono ?_;rintro e w4 ⟨rd, sd, csd, qd, bo, m, cp, tx, tmd, rfl, lc, hok, -, hg⟩;have hb1 := new_far hg;replace HB := hid (HB.out.trans (hb1.mono HB.out.size));replace HC := hid ((hb1.block _ (ab HC.out)).trans HC.out);have LC := hid lc;obtain ⟨Md, htd, hkd⟩ := con_mod hok
   have hd1 : ∀ W, Below w4.heap.size w4 W → Calls Tryz.prog 26 #[.agg #[.int .i64 rd, .int .i64 sd, .slice bo m cp, .string tx, .string tmd]] W (NormP true rd sd qd csd Md 1100 W) := fun W hW => by
    have hv := fun W2 (hW2 : Below W.heap.size W W2) => validC ((LC.out.far hW).far hW2) hok (by decide) (HE.out.far (HB.out.trans ((hW.trans (hW2.mono hW.size)).mono HB.out.size)))
    rw [htd] at hv ⊢;exact norm_any (LC.out.far hW).i hkd (by decide) hv (HE.out.far (HB.out.trans (hW.mono HB.out.size)))
   have hd2 : ∀ W, Below w4.heap.size w4 W → Calls Tryz.prog 33 #[.agg #[.int .i64 rd, .int .i64 sd, .slice bo m cp, .string tx, .string tmd]] W (NormP true rd sd qd csd Md 1100 W) := fun W hW => by
    rw [htd];exact refNorm_any (LC.out.far hW).i hkd (by decide) fun W2 hW2 => refValidC ((LC.out.far hW).far hW2) hkd (by decide)
   have HD1 := hid hd1;have HD2 := hid hd2;clear hb1 hg lc hok htd hkd hd1 hd2 LC;have hal := alloc_far w4 (.cells #[.int .i64 rd, .int .i64 sd, .slice bo m cp, .string tx, .string tmd] 39);have HX := hid (heap_alloc_new w4 (.cells #[.int .i64 rd, .int .i64 sd, .slice bo m cp, .string tx, .string tmd] 39));replace HB := hid (HB.out.trans (hal.mono HB.out.size));replace HC := hid ((hal.block _ (ab HC.out)).trans HC.out);have HB4 := hid hal;clear hal
   go_wp2_with fail
   generalize w4.alloc (.cells #[.int .i64 rd, .int .i64 sd, .slice bo m cp, .string tx, .string tmd] 39) = w5 at *;refine (HD1.out _ HB4.out).mono ?_;intro e w6 hp;obtain ⟨rA, sA, aA, nA, cA, tA, mA, rfl, hv, hb⟩ := NormP.form four hp;replace HB := hid (HB.out.trans (hb.mono HB.out.size));replace HC := hid ((hb.block _ (ab HC.out)).trans HC.out);replace HX := hid ((hb.block _ (ab HX.out)).trans HX.out);replace HB4 := hid (HB4.out.trans (hb.mono HB4.out.size));have HVA := hid hv;clear hb hv hp;rw [show errV true = 0 from rfl];have x0 := aa HX.out 0;have x1 := aa HX.out 1;have x2 := aa HX.out 2;have x3 := aa HX.out 3;have x4 := aa HX.out 4
   go_upto_region 5 with fail
   have hal := alloc_far w6 (.cells #[.int .i64 rA, .int .i64 sA, .slice aA nA cA, .string tA, .string mA] 39);have HA := hid (heap_alloc_new w6 (.cells #[.int .i64 rA, .int .i64 sA, .slice aA nA cA, .string tA, .string mA] 39));replace HB := hid (HB.out.trans (hal.mono HB.out.size));replace HC := hid ((hal.block _ (ab HC.out)).trans HC.out);replace HX := hid ((hal.block _ (ab HX.out)).trans HX.out);replace HB4 := hid (HB4.out.trans (hal.mono HB4.out.size));replace HVA := hid (NV.far four HVA.out hal);clear hal x0 x1 x2 x3 x4 HD1;generalize w6.alloc (.cells #[.int .i64 rA, .int .i64 sA, .slice aA nA cA, .string tA, .string mA] 39) = w7 at *;generalize w6.heap.size = SA at *;have x0 := aa HX.out 0;have x1 := aa HX.out 1;have x2 := aa HX.out 2;have x3 := aa HX.out 3;have x4 := aa HX.out 4
   go_wp2_with fail
   clear x0 x1 x2 x3 x4;refine (HD2.out _ HB4.out).mono ?_;intro e w8 hp;obtain ⟨rB, sB, aB, nB, cB, tB, mB, rfl, hv, hb⟩ := NormP.form four hp;replace HB := hid (HB.out.trans (hb.mono HB.out.size));replace HC := hid ((hb.block _ (ab HC.out)).trans HC.out);replace HX := hid ((hb.block _ (ab HX.out)).trans HX.out);replace HB4 := hid (HB4.out.trans (hb.mono HB4.out.size));replace HA := hid ((hb.block _ (ab HA.out)).trans HA.out);replace HVA := hid (NV.far four HVA.out hb);have HVB := hid hv;clear hb hv hp;rw [show errV true = 0 from rfl]
   go_upto_region 6 with fail
   have hal := alloc_far w8 (.cells #[.int .i64 rB, .int .i64 sB, .slice aB nB cB, .string tB, .string mB] 39);have HBb := hid (heap_alloc_new w8 (.cells #[.int .i64 rB, .int .i64 sB, .slice aB nB cB, .string tB, .string mB] 39));replace HB := hid (HB.out.trans (hal.mono HB.out.size));replace HC := hid ((hal.block _ (ab HC.out)).trans HC.out);replace HX := hid ((hal.block _ (ab HX.out)).trans HX.out);replace HB4 := hid (HB4.out.trans (hal.mono HB4.out.size));replace HA := hid ((hal.block _ (ab HA.out)).trans HA.out);replace HVA := hid (NV.far four HVA.out hal);replace HVB := hid (NV.far four HVB.out hal);clear hal HD2 HX HB4;generalize w8.alloc (.cells #[.int .i64 rB, .int .i64 sB, .slice aB nB cB, .string tB, .string mB] 39) = w9 at *;generalize w8.heap.size = SB at *;obtain ⟨N, V, p, cs, M, hn1, hn2⟩ := HNR.out (by trivial) HT40.out;have HN1 := hid hn1;have HN2 := hid hn2;clear hn1 hn2 HNR;obtain ⟨z, hz⟩ : ∃ z, errV V = z := ⟨_, rfl⟩
   have HZ := hid hz;clear hz;have x0 := aa HC.out 0;have x1 := aa HC.out 1;have x2 := aa HC.out 2;have x3 := aa HC.out 3;have x4 := aa HC.out 4
   go_wp2_with fail
   clear x0 x1 x2 x3 x4;refine (HN1.out _ HB.out).mono ?_;intro e wa hp;obtain ⟨rP, sP, aP, nP, cP, tP, mP, rfl, hv, hb⟩ := NormP.form N hp;replace HB := hid (HB.out.trans (hb.mono HB.out.size));replace HC := hid ((hb.block _ (ab HC.out)).trans HC.out);replace HA := hid ((hb.block _ (ab HA.out)).trans HA.out);replace HVA := hid (NV.far four HVA.out hb);replace HBb := hid ((hb.block _ (ab HBb.out)).trans HBb.out);replace HVB := hid (NV.far four HVB.out hb);have HVP := hid hv;clear hb hv hp;rw [HZ.out]
   go_upto_region 7 with fail
   have hal := alloc_far wa (.cells #[.int .i64 rP, .int .i64 sP, .slice aP nP cP, .string tP, .string mP] 39);have HP := hid (heap_alloc_new wa (.cells #[.int .i64 rP, .int .i64 sP, .slice aP nP cP, .string tP, .string mP] 39));replace HB := hid (HB.out.trans (hal.mono HB.out.size));replace HC := hid ((hal.block _ (ab HC.out)).trans HC.out);replace HA := hid ((hal.block _ (ab HA.out)).trans HA.out);replace HVA := hid (NV.far four HVA.out hal);replace HBb := hid ((hal.block _ (ab HBb.out)).trans HBb.out);replace HVB := hid (NV.far four HVB.out hal);replace HVP := hid (NV.far N HVP.out hal);clear hal HN1;generalize wa.alloc (.cells #[.int .i64 rP, .int .i64 sP, .slice aP nP cP, .string tP, .string mP] 39) = wb at *;generalize wa.heap.size = SP at *;have x0 := aa HC.out 0;have x1 := aa HC.out 1;have x2 := aa HC.out 2;have x3 := aa HC.out 3;have x4 := aa HC.out 4
   go_wp2_with fail
   clear x0 x1 x2 x3 x4;refine (HN2.out _ HB.out).mono ?_;intro e wc hp;obtain ⟨rQ, sQ, aQ, nQ, cQ, tQ, mQ, rfl, hv, hb⟩ := NormP.form N hp;replace HB := hid (HB.out.trans (hb.mono HB.out.size));replace HC := hid ((hb.block _ (ab HC.out)).trans HC.out);replace HA := hid ((hb.block _ (ab HA.out)).trans HA.out);replace HVA := hid (NV.far four HVA.out hb);replace HBb := hid ((hb.block _ (ab HBb.out)).trans HBb.out);replace HVB := hid (NV.far four HVB.out hb);replace HP := hid ((hb.block _ (ab HP.out)).trans HP.out);replace HVP := hid (NV.far N HVP.out hb);have HVQ := hid hv;clear hb hv hp;rw [HZ.out]
   go_upto_region 8 with fail
   have hal := alloc_far wc (.cells #[.int .i64 rQ, .int .i64 sQ, .slice aQ nQ cQ, .string tQ, .string mQ] 39);have HQ := hid (heap_alloc_new wc (.cells #[.int .i64 rQ, .int .i64 sQ, .slice aQ nQ cQ, .string tQ, .string mQ] 39));replace HB := hid (HB.out.trans (hal.mono HB.out.size));replace HC := hid ((hal.block _ (ab HC.out)).trans HC.out);replace HA := hid ((hal.block _ (ab HA.out)).trans HA.out);replace HVA := hid (NV.far four HVA.out hal);replace HBb := hid ((hal.block _ (ab HBb.out)).trans HBb.out);replace HVB := hid (NV.far four HVB.out hal);replace HP := hid ((hal.block _ (ab HP.out)).trans HP.out);replace HVP := hid (NV.far N HVP.out hal);replace HVQ := hid (NV.far N HVQ.out hal);clear hal HN2 HC;generalize wc.alloc (.cells #[.int .i64 rQ, .int .i64 sQ, .slice aQ nQ cQ, .string tQ, .string mQ] 39) = wd at *;generalize wc.heap.size = SQ at *;have hsa := NV.same four HVA.out HVB.out;have HSA := hid hsa
   have hsp : ∀ W, Below wd.heap.size wd W → Calls Tryz.prog 27 #[.agg #[.int .i64 rP, .int .i64 sP, .slice aP nP cP, .string tP, .string mP], .agg #[.int .i64 rQ, .int .i64 sQ, .slice aQ nQ cQ, .string tQ, .string mQ]] W fun e w' => e = .returned (.bool true) ∧ Below W.heap.size W w' := fun W hW =>
    NV.same N (NV.far N HVP.out hW) (NV.far N HVQ.out hW)
   have HSP := hid hsp;clear hsa hsp HVA HVB HVP HVQ;have a0' := aa HA.out 0;have a1' := aa HA.out 1;have a2' := aa HA.out 2;have a3' := aa HA.out 3;have a4' := aa HA.out 4;have b0' := aa HBb.out 0;have b1' := aa HBb.out 1;have b2' := aa HBb.out 2;have b3' := aa HBb.out 3;have b4' := aa HBb.out 4;have p0' := aa HP.out 0;have p1' := aa HP.out 1;have p2' := aa HP.out 2;have p3' := aa HP.out 3;have p4' := aa HP.out 4;have q0' := aa HQ.out 0;have q1' := aa HQ.out 1;have q2' := aa HQ.out 2;have q3' := aa HQ.out 3;have q4' := aa HQ.out 4
   go_wp2_with fail
   clear a0' a1' a2' a3' a4' b0' b1' b2' b3' b4' p0' p1' p2' p3' p4' q0' q1' q2' q3' q4';refine HSA.out.mono ?_;rintro e we ⟨rfl, hb⟩;have hsp := HSP.out we hb;replace HB := hid (HB.out.trans (hb.mono HB.out.size));replace HP := hid ((hb.block _ (ab HP.out)).trans HP.out);replace HQ := hid ((hb.block _ (ab HQ.out)).trans HQ.out);replace HSP := hid hsp;clear hb hsp HSA;have p0' := aa HP.out 0;have p1' := aa HP.out 1;have p2' := aa HP.out 2;have p3' := aa HP.out 3;have p4' := aa HP.out 4;have q0' := aa HQ.out 0;have q1' := aa HQ.out 1;have q2' := aa HQ.out 2;have q3' := aa HQ.out 3;have q4' := aa HQ.out 4
   go_wp2_with fail
   clear p0' p1' p2' p3' p4' q0' q1' q2' q3' q4';refine HSP.out.mono ?_;rintro e wf ⟨rfl, hb⟩;replace HB := hid (HB.out.trans (hb.mono HB.out.size));clear hb HSP
   go_wp2_with fail
   refine (awakeL _ (HE.out.far HB.out)).mono ?_;rintro e wk ⟨rfl, hb1⟩;replace HB := hid (HB.out.trans (hb1.mono HB.out.size));clear hb1
   go_wp2
   go_ret
   exact ⟨rfl, HB.out⟩
end
end Go.Proofs.YteoklapcifonaaaGreatDoor

/- Normal at divisibilities. -/
import Derived.Test.YteoklapcifonaaaGreatDoorNMG
open Go.Lib (hid)
namespace Go.Proofs.YteoklapcifonaaaGreatDoor
open Go.RowKit Nmx
/-- a divisibility's normal form and no error -/
def GetsDE [Nms] (r : Int) (tm : ByteArray) (d : Nat) (c : Rat) (f : List UInt8 → Rat) (w : World) (e : Ending) (w' : World) : Prop := ∃ rs ao n cp tx, e = .returned (.tuple #[.agg #[.int .i64 r, .int .i64 2, .slice ao n cp, .string tx, .string tm], .int .i64 0]) ∧ LV w' (.agg #[.int .i64 2, .slice ao n cp, .string tx]) 2 d c rs ∧ (∀ n, cof rs n = f n) ∧ Below w.heap.size w w'
section
set_option maxRecDepth 100000
set_option maxHeartbeats 8000000
theorem normalDV [Nms] {d : Nat} {w : World} {r m : Int} {a1 : Option Addr} {n1 c1 : Nat} {t1 : ByteArray} {p : Rat} {cs : List (List UInt8 × Rat)} (h : LVi w (.agg #[.int .i64 2, .slice a1 n1 c1, .string t1]) 2 d p cs) (hr : r = 4 ∨ r = 5) (hm : 1 ≤ m) (hmd : DS d (m : Rat)) (hd : d ≤ 80) (hvl : ∀ W, Below w.heap.size w W → Calls Tryz.prog 31 #[.agg #[.int .i64 r, .int .i64 2, .slice a1 n1 c1, .string t1, .string (TX (m : Rat))]] W fun e w' => e = .returned (.bool true) ∧ Below W.heap.size W w') (hE : Env w) :
    Calls Tryz.prog 26 #[.agg #[.int .i64 r, .int .i64 2, .slice a1 n1 c1, .string t1, .string (TX (m : Rat))]] w fun e w' => ∃ r' c' f' tm', DF r m p cs r' c' f' tm' ∧ GetsDE r' tm' (10 * d + 1) c' f' w e w' := by
 have hnc : ∀ W, Below w.heap.size w W → Calls Tryz.prog 65 #[.agg #[.int .i64 r, .int .i64 2, .slice a1 n1 c1, .string t1, .string (TX (m : Rat))]] W fun e w' => ∃ r' c' f' tm', DF r m p cs r' c' f' tm' ∧ GetsD r' tm' (10 * d + 1) c' f' W e w' := fun W hW =>
  normalDivides_any (h.far hW) hr hm hmd hd (hE.far hW) fun r' c' f' tm' e w' h1 h2 => ⟨r', c', f', tm', h1, h2⟩
 obtain ⟨tm, htm⟩ : ∃ tm, TX (m : Rat) = tm := ⟨_, rfl⟩
 rw [htm] at hvl hnc ⊢;have HVL := hid hvl;have HNC := hid hnc;obtain ⟨m1, m2, mb⟩ := newL2 w (.cells #[.int .i64 r, .int .i64 2, .slice a1 n1 c1, .string t1, .string tm] 39) (.cells #[.int .i64 0, .int .i64 0, .slice none 0 0, .string ⟨#[]⟩, .string ⟨#[]⟩] 39);have HM1 := hid m1;have HM2 := hid m2;have HMB := hid mb;clear hvl hnc m1 m2 mb h hE htm hm hmd;rcases hr with rfl | rfl
 · go_enter Tryz.func26, Tryz.ntmps26
   go_wp2_with fail
   generalize (w.alloc (.cells #[.int .i64 4, .int .i64 2, .slice a1 n1 c1, .string t1, .string tm] 39)).alloc (.cells #[.int .i64 0, .int .i64 0, .slice none 0 0, .string ⟨#[]⟩, .string ⟨#[]⟩] 39) = w3 at *;refine (HVL.out _ HMB.out).mono ?_;rintro e w4 ⟨rfl, hb⟩;have HA4 := hid ((hb.block _ (ab HM1.out)).trans HM1.out);have HR4 := hid ((hb.block _ (ab HM2.out)).trans HM2.out);have HB4 := hid (HMB.out.trans (hb.mono HMB.out.size));clear hb;have p0 := aa HA4.out 0;have p1 := aa HA4.out 1;have p2 := aa HA4.out 2;have p3 := aa HA4.out 3;have p4 := aa HA4.out 4
   go_wp2_with fail
   refine (HNC.out _ HB4.out).mono ?_;rintro e w5 ⟨r', c', f', tm', hnf, rs, ao, n, cp, tx, rfl, hl, hf, hb⟩;have HR5 := hid ((hb.block _ (ab HR4.out)).trans HR4.out);have HB5 := hid (HB4.out.trans (hb.mono HB4.out.size));have HL := hid hl;have HF := hid hf;have HNF := hid hnf;clear hb hl hf hnf p0 p1 p2 p3 p4;have r0 := aa HR5.out 0;have r1 := aa HR5.out 1;have r2 := aa HR5.out 2;have r3 := aa HR5.out 3;have r4 := aa HR5.out 4;have fr := fun i => ah HR5.out i
   go_wp2_with fail
   exact end_con2 rfl rfl rfl rfl (az HR5.out _ _ _ _ _) ⟨r', c', f', tm', HNF.out, rs, ao, n, cp, tx, rfl, HL.out.but HR5.out (by decide) (fun g hg => aN _ _ _ _ _ hg), HF.out, ax HB5.out (by omega) _ _ _ _ _⟩
 · go_enter Tryz.func26, Tryz.ntmps26
   go_wp2_with fail
   generalize (w.alloc (.cells #[.int .i64 5, .int .i64 2, .slice a1 n1 c1, .string t1, .string tm] 39)).alloc (.cells #[.int .i64 0, .int .i64 0, .slice none 0 0, .string ⟨#[]⟩, .string ⟨#[]⟩] 39) = w3 at *;refine (HVL.out _ HMB.out).mono ?_;rintro e w4 ⟨rfl, hb⟩;have HA4 := hid ((hb.block _ (ab HM1.out)).trans HM1.out);have HR4 := hid ((hb.block _ (ab HM2.out)).trans HM2.out);have HB4 := hid (HMB.out.trans (hb.mono HMB.out.size));clear hb;have p0 := aa HA4.out 0;have p1 := aa HA4.out 1;have p2 := aa HA4.out 2;have p3 := aa HA4.out 3;have p4 := aa HA4.out 4
   go_wp2_with fail
   refine (HNC.out _ HB4.out).mono ?_;rintro e w5 ⟨r', c', f', tm', hnf, rs, ao, n, cp, tx, rfl, hl, hf, hb⟩;have HR5 := hid ((hb.block _ (ab HR4.out)).trans HR4.out);have HB5 := hid (HB4.out.trans (hb.mono HB4.out.size));have HL := hid hl;have HF := hid hf;have HNF := hid hnf;clear hb hl hf hnf p0 p1 p2 p3 p4;have r0 := aa HR5.out 0;have r1 := aa HR5.out 1;have r2 := aa HR5.out 2;have r3 := aa HR5.out 3;have r4 := aa HR5.out 4;have fr := fun i => ah HR5.out i
   go_wp2_with fail
   exact end_con2 rfl rfl rfl rfl (az HR5.out _ _ _ _ _) ⟨r', c', f', tm', HNF.out, rs, ao, n, cp, tx, rfl, HL.out.but HR5.out (by decide) (fun g hg => aN _ _ _ _ _ hg), HF.out, ax HB5.out (by omega) _ _ _ _ _⟩
end
end Go.Proofs.YteoklapcifonaaaGreatDoor

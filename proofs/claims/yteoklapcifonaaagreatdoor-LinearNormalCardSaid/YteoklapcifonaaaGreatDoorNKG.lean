/- Normal of both sides at any constraint: its errors, divisibilities, one post. -/
import Derived.Test.YteoklapcifonaaaGreatDoorNKB
import Derived.Test.YteoklapcifonaaaGreatDoorNKF
import Derived.Test.YteoklapcifonaaaGreatDoorNTF
open Go.Lib (hid)
namespace Go.Proofs.YteoklapcifonaaaGreatDoor
open Go.RowKit Nmx
/-- a constraint and an error are handed back -/
theorem end_conE {fn : Func} {t u : Tmp} {a : Act} {w2 : World} {R : Nat} {r s z : Int} {ao : Option Addr} {n c : Nat} {tx tm : ByteArray} {post : Ending → World → Prop} (hres : fn.results = #[.cell t 39, .tmp u]) (hd : a.defers = []) (ht : a.tmps.getD t undef = .pointer (some ⟨R, 0, none⟩)) (hu : a.tmps.getD u undef = .int .i64 z)
    (hR : w2.heap[R]? = some (.cells #[.int .i64 r, .int .i64 s, .slice ao n c, .string tx, .string tm] 39 (0, 0))) (h : post (.returned (.tuple #[.agg #[.int .i64 r, .int .i64 s, .slice ao n c, .string tx, .string tm], .int .i64 z])) w2) :
    bodyPost Tryz.prog fn post .ret a w2 := by
 have k0 := aa hR 0;have k1 := aa hR 1;have k2 := aa hR 2;have k3 := aa hR 3;have k4 := aa hR 4
 simp at k0 k1 k2 k3 k4
 refine bodyPost_ret (v := .tuple #[.agg #[.int .i64 r, .int .i64 s, .slice ao n c, .string tx, .string tm], .int .i64 z]) ?_ hd h;have ht' : a.tmps[t]?.getD undef = .pointer (some ⟨R, 0, none⟩) := by simpa using ht
 have hu' : a.tmps[u]?.getD undef = .int .i64 z := by simpa using hu
 simp [results, hres, go_sem, ht', hu', k0, k1, k2, k3, k4]
/-- the boxes of Normal, at any modulus -/
structure NBZ (w W : World) (r s : Int) (a1 : Option Addr) (n1 c1 : Nat) (t1 tm : ByteArray) : Prop where
 a : W.heap[w.heap.size]? = some (.cells #[.int .i64 r, .int .i64 s, .slice a1 n1 c1, .string t1, .string tm] 39 (0, 0))
 r : W.heap[w.heap.size + 1]? = some (.cells #[.int .i64 0, .int .i64 0, .slice none 0 0, .string ⟨#[]⟩, .string ⟨#[]⟩] 39 (0, 0))
 bel : Below w.heap.size w W
theorem NBZ.far {w W W' : World} {r s : Int} {a1 : Option Addr} {n1 c1 : Nat} {t1 tm : ByteArray} (h : NBZ w W r s a1 n1 c1 t1 tm) (hb : Below W.heap.size W W') : NBZ w W' r s a1 n1 c1 t1 tm :=
 ⟨(hb.block _ (ab h.a)).trans h.a, (hb.block _ (ab h.r)).trans h.r, h.bel.trans (hb.mono h.bel.size)⟩
section
set_option maxRecDepth 100000
set_option maxHeartbeats 8000000
theorem normalNo {w : World} {r s : Int} {a1 : Option Addr} {n1 c1 : Nat} {t1 tm : ByteArray} (hvl : ∀ W, Below w.heap.size w W → Calls Tryz.prog 31 #[.agg #[.int .i64 r, .int .i64 s, .slice a1 n1 c1, .string t1, .string tm]] W fun e w' => e = .returned (.bool false) ∧ Below W.heap.size W w') :
    Calls Tryz.prog 26 #[.agg #[.int .i64 r, .int .i64 s, .slice a1 n1 c1, .string t1, .string tm]] w fun e w' => e = .returned (.tuple #[zeroCV, .int .i64 1]) ∧ Below w.heap.size w w' := by
 have HVL := hid hvl;obtain ⟨m1, m2, mb⟩ := newL2 w (.cells #[.int .i64 r, .int .i64 s, .slice a1 n1 c1, .string t1, .string tm] 39) (.cells #[.int .i64 0, .int .i64 0, .slice none 0 0, .string ⟨#[]⟩, .string ⟨#[]⟩] 39);have HK := hid (⟨m1, m2, mb⟩ : NBZ w _ r s a1 n1 c1 t1 tm);clear hvl m1 m2 mb
 go_enter Tryz.func26, Tryz.ntmps26
 go_wp2_with fail
 generalize (w.alloc (.cells #[.int .i64 r, .int .i64 s, .slice a1 n1 c1, .string t1, .string tm] 39)).alloc (.cells #[.int .i64 0, .int .i64 0, .slice none 0 0, .string ⟨#[]⟩, .string ⟨#[]⟩] 39) = w3 at *;refine (HVL.out _ HK.out.bel).mono ?_;rintro e w4 ⟨rfl, hb⟩;replace HK := hid (HK.out.far hb);clear hb HVL;have r0 := aa HK.out.r 0;have r1 := aa HK.out.r 1;have r2 := aa HK.out.r 2;have r3 := aa HK.out.r 3;have r4 := aa HK.out.r 4;have fr := fun i => ah HK.out.r i
 go_wp2_with fail
 exact end_conE rfl rfl rfl rfl (az HK.out.r _ _ _ _ _) ⟨rfl, ax HK.out.bel (by omega) _ _ _ _ _⟩
theorem refNormalNo {w : World} {r s : Int} {a1 : Option Addr} {n1 c1 : Nat} {t1 tm : ByteArray} (hvl : ∀ W, Below w.heap.size w W → Calls Tryz.prog 32 #[.agg #[.int .i64 r, .int .i64 s, .slice a1 n1 c1, .string t1, .string tm]] W fun e w' => e = .returned (.bool false) ∧ Below W.heap.size W w') :
    Calls Tryz.prog 33 #[.agg #[.int .i64 r, .int .i64 s, .slice a1 n1 c1, .string t1, .string tm]] w fun e w' => e = .returned (.tuple #[zeroCV, .int .i64 1]) ∧ Below w.heap.size w w' := by
 have HVL := hid hvl;obtain ⟨m1, m2, mb⟩ := newL2 w (.cells #[.int .i64 r, .int .i64 s, .slice a1 n1 c1, .string t1, .string tm] 39) (.cells #[.int .i64 0, .int .i64 0, .slice none 0 0, .string ⟨#[]⟩, .string ⟨#[]⟩] 39);have HK := hid (⟨m1, m2, mb⟩ : NBZ w _ r s a1 n1 c1 t1 tm);clear hvl m1 m2 mb
 go_enter Tryz.func33, Tryz.ntmps33
 go_wp2_with fail
 generalize (w.alloc (.cells #[.int .i64 r, .int .i64 s, .slice a1 n1 c1, .string t1, .string tm] 39)).alloc (.cells #[.int .i64 0, .int .i64 0, .slice none 0 0, .string ⟨#[]⟩, .string ⟨#[]⟩] 39) = w3 at *;refine (HVL.out _ HK.out.bel).mono ?_;rintro e w4 ⟨rfl, hb⟩;replace HK := hid (HK.out.far hb);clear hb HVL;have r0 := aa HK.out.r 0;have r1 := aa HK.out.r 1;have r2 := aa HK.out.r 2;have r3 := aa HK.out.r 3;have r4 := aa HK.out.r 4;have fr := fun i => ah HK.out.r i
 go_wp2_with fail
 exact end_conE rfl rfl rfl rfl (az HK.out.r _ _ _ _ _) ⟨rfl, ax HK.out.bel (by omega) _ _ _ _ _⟩
theorem refNormalD [Nms] {d : Nat} {w : World} {r m : Int} {a1 : Option Addr} {n1 c1 : Nat} {t1 : ByteArray} {p : Rat} {cs : List (List UInt8 × Rat)} (h : LVi w (.agg #[.int .i64 2, .slice a1 n1 c1, .string t1]) 2 d p cs) (hr : r = 4 ∨ r = 5) (hm : 1 ≤ m) (hmd : DS d (m : Rat)) (hd : d ≤ 60)
    (hvl : ∀ W, Below w.heap.size w W → Calls Tryz.prog 32 #[.agg #[.int .i64 r, .int .i64 2, .slice a1 n1 c1, .string t1, .string (TX (m : Rat))]] W fun e w' => e = .returned (.bool true) ∧ Below W.heap.size W w') :
    Calls Tryz.prog 33 #[.agg #[.int .i64 r, .int .i64 2, .slice a1 n1 c1, .string t1, .string (TX (m : Rat))]] w fun e w' => ∃ r' c' f' tm', DF r m p cs r' c' f' tm' ∧ GetsDE r' tm' (20 * d + 4) c' f' w e w' := by
 have hnc : ∀ W, Below w.heap.size w W → Calls Tryz.prog 76 #[.agg #[.int .i64 r, .int .i64 2, .slice a1 n1 c1, .string t1, .string (TX (m : Rat))]] W fun e w' => ∃ r' c' f' tm', DF r m p cs r' c' f' tm' ∧ GetsD r' tm' (20 * d + 4) c' f' W e w' := fun W hW => divisibility_any (h.far hW) hr hm hmd hd
 obtain ⟨tm, htm⟩ : ∃ tm, TX (m : Rat) = tm := ⟨_, rfl⟩
 rw [htm] at hvl hnc ⊢;have HVL := hid hvl;have HNC := hid hnc;obtain ⟨m1, m2, mb⟩ := newL2 w (.cells #[.int .i64 r, .int .i64 2, .slice a1 n1 c1, .string t1, .string tm] 39) (.cells #[.int .i64 0, .int .i64 0, .slice none 0 0, .string ⟨#[]⟩, .string ⟨#[]⟩] 39);have HK := hid (⟨m1, m2, mb⟩ : NBZ w _ r 2 a1 n1 c1 t1 tm);clear hvl hnc m1 m2 mb h htm hm hmd;rcases hr with rfl | rfl
 · go_enter Tryz.func33, Tryz.ntmps33
   go_wp2_with fail
   generalize (w.alloc (.cells #[.int .i64 4, .int .i64 2, .slice a1 n1 c1, .string t1, .string tm] 39)).alloc (.cells #[.int .i64 0, .int .i64 0, .slice none 0 0, .string ⟨#[]⟩, .string ⟨#[]⟩] 39) = w3 at *;refine (HVL.out _ HK.out.bel).mono ?_;rintro e w4 ⟨rfl, hb⟩;replace HK := hid (HK.out.far hb);clear hb;have p0 := aa HK.out.a 0;have p1 := aa HK.out.a 1;have p2 := aa HK.out.a 2;have p3 := aa HK.out.a 3;have p4 := aa HK.out.a 4
   go_wp2_with fail
   refine (HNC.out _ HK.out.bel).mono ?_;rintro e w5 ⟨r', c', f', tm', hnf, rs, ao, n, cp, tx, rfl, hl, hf, hb⟩;replace HK := hid (HK.out.far hb);have HL := hid hl;have HF := hid hf;have HNF := hid hnf;clear hb hl hf hnf p0 p1 p2 p3 p4;have r0 := aa HK.out.r 0;have r1 := aa HK.out.r 1;have r2 := aa HK.out.r 2;have r3 := aa HK.out.r 3;have r4 := aa HK.out.r 4;have fr := fun i => ah HK.out.r i
   go_wp2_with fail
   exact end_con2 rfl rfl rfl rfl (az HK.out.r _ _ _ _ _) ⟨r', c', f', tm', HNF.out, rs, ao, n, cp, tx, rfl, HL.out.but HK.out.r (by decide) (fun g hg => aN _ _ _ _ _ hg), HF.out, ax HK.out.bel (by omega) _ _ _ _ _⟩
 · go_enter Tryz.func33, Tryz.ntmps33
   go_wp2_with fail
   generalize (w.alloc (.cells #[.int .i64 5, .int .i64 2, .slice a1 n1 c1, .string t1, .string tm] 39)).alloc (.cells #[.int .i64 0, .int .i64 0, .slice none 0 0, .string ⟨#[]⟩, .string ⟨#[]⟩] 39) = w3 at *;refine (HVL.out _ HK.out.bel).mono ?_;rintro e w4 ⟨rfl, hb⟩;replace HK := hid (HK.out.far hb);clear hb;have p0 := aa HK.out.a 0;have p1 := aa HK.out.a 1;have p2 := aa HK.out.a 2;have p3 := aa HK.out.a 3;have p4 := aa HK.out.a 4
   go_wp2_with fail
   refine (HNC.out _ HK.out.bel).mono ?_;rintro e w5 ⟨r', c', f', tm', hnf, rs, ao, n, cp, tx, rfl, hl, hf, hb⟩;replace HK := hid (HK.out.far hb);have HL := hid hl;have HF := hid hf;have HNF := hid hnf;clear hb hl hf hnf p0 p1 p2 p3 p4;have r0 := aa HK.out.r 0;have r1 := aa HK.out.r 1;have r2 := aa HK.out.r 2;have r3 := aa HK.out.r 3;have r4 := aa HK.out.r 4;have fr := fun i => ah HK.out.r i
   go_wp2_with fail
   exact end_con2 rfl rfl rfl rfl (az HK.out.r _ _ _ _ _) ⟨r', c', f', tm', HNF.out, rs, ao, n, cp, tx, rfl, HL.out.but HK.out.r (by decide) (fun g hg => aN _ _ _ _ _ hg), HF.out, ax HK.out.bel (by omega) _ _ _ _ _⟩
/-- the same constraint twice: the one that is none -/
theorem sameZ (w : World) : Calls Tryz.prog 27 #[zeroCV, zeroCV] w fun e w' => e = .returned (.bool true) ∧ Below w.heap.size w w' := by
 have hsm : ∀ W, Calls Tryz.prog 19 #[.agg #[.int .i64 0, .slice none 0 0, .string ⟨#[]⟩], .agg #[.int .i64 0, .slice none 0 0, .string ⟨#[]⟩]] W fun e w' => e = .returned (.bool true) ∧ Below W.heap.size W w' := fun W =>
  have hc : CSl W none 0 0 0 [] := ⟨Nat.le_refl _, by omega, fun h => by omega, fun i hi => absurd hi (by simp), fun i hi => absurd hi (by simp)⟩
  same_ok W 0 [] ⟨#[]⟩ none 0 0 0 none 0 0 0 hc hc
 have HSM := hid hsm;clear hsm;unfold zeroCV;obtain ⟨m1, m2, mb⟩ := newL2 w (.cells #[.int .i64 0, .int .i64 0, .slice none 0 0, .string ⟨#[]⟩, .string ⟨#[]⟩] 39) (.cells #[.int .i64 0, .int .i64 0, .slice none 0 0, .string ⟨#[]⟩, .string ⟨#[]⟩] 39);have HM1 := hid m1;have HM2 := hid m2;have HB := hid mb;clear m1 m2 mb
 go_enter Tryz.func27, Tryz.ntmps27
 go_wp2_with fail
 refine (HSM.out _).mono ?_;rintro e w1 ⟨rfl, hb⟩;replace HB := hid (HB.out.trans (hb.mono HB.out.size));clear hb HM1 HM2
 go_wp2
 go_ret
 exact ⟨rfl, HB.out⟩
end
/-- the error -/
def errV : Bool → Int
 | true => 0
 | false => 1
/-- what Normal hands back, as a value -/
def NV [Nms] (V : Bool) (r s : Int) (p : Rat) (cs : List (List UInt8 × Rat)) (M : Option Int) (D : Nat) (W : World) (r' s' : Int) (ao : Option Addr) (n cp : Nat) (tx tm' : ByteArray) : Prop :=
 (V = false ∧ r' = 0 ∧ s' = 0 ∧ ao = none ∧ n = 0 ∧ cp = 0 ∧ tx = ⟨#[]⟩ ∧ tm' = ⟨#[]⟩) ∨
 (V = true ∧ s' = s ∧ ∃ c' f' rs, NN r s p cs M r' c' f' tm' ∧ LV W (.agg #[.int .i64 s, .slice ao n cp, .string tx]) s D c' rs ∧ ∀ n, cof rs n = f' n)
theorem NV.far (N : Nms) {V : Bool} {r s : Int} {p : Rat} {cs : List (List UInt8 × Rat)} {M : Option Int} {D : Nat} {W W' : World} {r' s' : Int} {ao : Option Addr} {n cp : Nat} {tx tm' : ByteArray} (h : NV V r s p cs M D W r' s' ao n cp tx tm') (hb : Below W.heap.size W W') : NV V r s p cs M D W' r' s' ao n cp tx tm' :=
 h.imp id fun ⟨h1, h2, c', f', rs, h3, h4, h5⟩ => ⟨h1, h2, c', f', rs, h3, h4.far hb, h5⟩
theorem NormP.form (N : Nms) {V : Bool} {r s : Int} {p : Rat} {cs : List (List UInt8 × Rat)} {M : Option Int} {D : Nat} {w w' : World} {e : Ending} (h : NormP V r s p cs M D w e w') :
    ∃ r' s' ao n cp tx tm', e = .returned (.tuple #[.agg #[.int .i64 r', .int .i64 s', .slice ao n cp, .string tx, .string tm'], .int .i64 (errV V)]) ∧ NV V r s p cs M D w' r' s' ao n cp tx tm' ∧ Below w.heap.size w w' := by
 rcases h with ⟨rfl, h1, h2⟩ | ⟨rfl, r', c', f', tm', h1, rs, ao, n, cp, tx, h2, h3, h4, h5⟩
 · exact ⟨0, 0, none, 0, 0, _, _, h1, .inl ⟨rfl, rfl, rfl, rfl, rfl, rfl, rfl, rfl⟩, h2⟩
 · exact ⟨r', s, ao, n, cp, tx, tm', h2, .inr ⟨rfl, rfl, c', f', rs, h1, h3, h4⟩, h5⟩
theorem NV.same (N : Nms) {V : Bool} {r s : Int} {p : Rat} {cs : List (List UInt8 × Rat)} {M : Option Int} {D : Nat} {W : World} {r1 s1 r2 s2 : Int} {a1 a2 : Option Addr} {n1 n2 cp1 cp2 : Nat} {tx1 tm1 tx2 tm2 : ByteArray} (h1 : NV V r s p cs M D W r1 s1 a1 n1 cp1 tx1 tm1) (h2 : NV V r s p cs M D W r2 s2 a2 n2 cp2 tx2 tm2) :
    Calls Tryz.prog 27 #[.agg #[.int .i64 r1, .int .i64 s1, .slice a1 n1 cp1, .string tx1, .string tm1], .agg #[.int .i64 r2, .int .i64 s2, .slice a2 n2 cp2, .string tx2, .string tm2]] W fun e w' => e = .returned (.bool true) ∧ Below W.heap.size W w' := by
 rcases h1 with ⟨rfl, rfl, rfl, rfl, rfl, rfl, rfl, rfl⟩ | ⟨rfl, rfl, c1, f1, rs1, hn1, hl1, hf1⟩
 · rcases h2 with ⟨-, rfl, rfl, rfl, rfl, rfl, rfl, rfl⟩ | ⟨h, -⟩
   · exact sameZ W
   · exact absurd h (by decide)
 · rcases h2 with ⟨h, -⟩ | ⟨-, rfl, c2, f2, rs2, hn2, hl2, hf2⟩
   · exact absurd h (by decide)
   · obtain ⟨rfl, rfl, rfl, rfl⟩ := NN.uniq hn1 hn2;exact sameC hl1 hl2 (fun n => (hf1 n).trans (hf2 n).symm)
theorem norm_any [Nms] {d : Nat} {w : World} {r s : Int} {a1 : Option Addr} {n1 c1 : Nat} {t1 : ByteArray} {p : Rat} {cs : List (List UInt8 × Rat)} {M : Option Int} (h : LVi w (.agg #[.int .i64 s, .slice a1 n1 c1, .string t1]) s d p cs) (hk : ConM r s d M) (hd : d ≤ 40)
    (hvl : ∀ W, Below w.heap.size w W → Calls Tryz.prog 31 #[.agg #[.int .i64 r, .int .i64 s, .slice a1 n1 c1, .string t1, .string (TXo M)]] W fun e w' => e = .returned (.bool true) ∧ Below W.heap.size W w') (hE : Env w) :
    Calls Tryz.prog 26 #[.agg #[.int .i64 r, .int .i64 s, .slice a1 n1 c1, .string t1, .string (TXo M)]] w (NormP true r s p cs M 1100 w) := by
 have hg : Good d cs := let ⟨_, _, _, _, _, _, _, h4, _⟩ := h; h4
 cases M with
 | none =>
   refine (normalV h hk.2 hk.1 (K := 9 * d + 2) (fun hne => kP_ds hne (can_nz hg.can) hg.ds (can_len8 hg)) (by omega) (by omega) hvl hE).mono ?_;rintro e w' ⟨r', c', f', hn, rs, ao, n, cp, tx, rfl, hl, hf, hb⟩;exact .inr ⟨rfl, r', c', f', _, ⟨hn, rfl⟩, rs, ao, n, cp, tx, rfl, hl.mono (by omega), hf, hb⟩
 | some m =>
   obtain ⟨rfl, hr, hm, hmd⟩ := hk;refine (normalDV h hr hm hmd (by omega) hvl hE).mono ?_;rintro e w' ⟨r', c', f', tm', hn, rs, ao, n, cp, tx, rfl, hl, hf, hb⟩;exact .inr ⟨rfl, r', c', f', _, hn, rs, ao, n, cp, tx, rfl, hl.mono (by omega), hf, hb⟩
theorem refNorm_any [Nms] {d : Nat} {w : World} {r s : Int} {a1 : Option Addr} {n1 c1 : Nat} {t1 : ByteArray} {p : Rat} {cs : List (List UInt8 × Rat)} {M : Option Int} (h : LVi w (.agg #[.int .i64 s, .slice a1 n1 c1, .string t1]) s d p cs) (hk : ConM r s d M) (hd : d ≤ 40)
    (hvl : ∀ W, Below w.heap.size w W → Calls Tryz.prog 32 #[.agg #[.int .i64 r, .int .i64 s, .slice a1 n1 c1, .string t1, .string (TXo M)]] W fun e w' => e = .returned (.bool true) ∧ Below W.heap.size W w') :
    Calls Tryz.prog 33 #[.agg #[.int .i64 r, .int .i64 s, .slice a1 n1 c1, .string t1, .string (TXo M)]] w (NormP true r s p cs M 1100 w) := by
 cases M with
 | none =>
   have hc : Calls Tryz.prog 33 #[.agg #[.int .i64 r, .int .i64 s, .slice a1 n1 c1, .string t1, .string ⟨#[]⟩]] w fun e w' => ∃ r' c' f', NF r s p cs r' c' f' ∧ GetsNE r' s (12 * d + 8) c' f' w e w' := by
    by_cases hne : cs = []
    · subst hne;exact refNormal_nil h hk.2 (by omega) hvl
    · exact refNormal_ne h hne hk.2 hk.1 (by omega) hvl
   refine hc.mono ?_;rintro e w' ⟨r', c', f', hn, rs, ao, n, cp, tx, rfl, hl, hf, hb⟩;exact .inr ⟨rfl, r', c', f', _, ⟨hn, rfl⟩, rs, ao, n, cp, tx, rfl, hl.mono (by omega), hf, hb⟩
 | some m =>
   obtain ⟨rfl, hr, hm, hmd⟩ := hk;refine (refNormalD h hr hm hmd (by omega) hvl).mono ?_;rintro e w' ⟨r', c', f', tm', hn, rs, ao, n, cp, tx, rfl, hl, hf, hb⟩;exact .inr ⟨rfl, r', c', f', _, hn, rs, ao, n, cp, tx, rfl, hl.mono (by omega), hf, hb⟩
section
variable {w : World} {r s : Int} {ao : Option Addr} {g off cap : Nat} {rs : List (ByteArray × ByteArray)} {t tm : ByteArray}
theorem normRaw (hC : RSl w ao g off cap rs) (hS : Shrt rs t) (hm : tm.size ≤ 40) (hE : Env w) :
    Calls Tryz.prog 26 #[.agg #[.int .i64 r, .int .i64 s, .slice ao rs.length cap, .string t, .string tm]] w (@NormP (rawN rs hS.1) (conV (bM s rs t) r s tm) r s (rawC t) (rcs rs) (rawM r tm) 1100 w) := by
 have hvl : ∀ W, Below w.heap.size w W → Calls Tryz.prog 31 #[.agg #[.int .i64 r, .int .i64 s, .slice ao rs.length cap, .string t, .string tm]] W fun e w' => e = .returned (.bool (conV (bM s rs t) r s tm)) ∧ Below W.heap.size W w' := fun W hW => con_all.1 (fun W2 hW2 => linValidR (hC.far (hW.trans (hW2.mono hW.size))) hS (hE.far (hW.trans (hW2.mono hW.size)))) (by omega) (hE.far hW)
 cases hV : conV (bM s rs t) r s tm with
 | false =>
   rw [hV] at hvl;exact (normalNo hvl).mono fun e w' h => .inl ⟨rfl, h⟩
 | true =>
   rw [hV] at hvl;obtain ⟨hv, -, htm, hk⟩ := raw_con hV hm;have hl := raw_lin hC hv hS;rw [htm] at hvl ⊢;have := @norm_any (rawN rs hS.1) _ _ _ _ _ _ _ _ _ _ _ hl hk (by decide) hvl hE;rwa [← htm] at this ⊢
theorem refNormRaw (hC : RSl w ao g off cap rs) (hS : Shrt rs t) (hm : tm.size ≤ 40) :
    Calls Tryz.prog 33 #[.agg #[.int .i64 r, .int .i64 s, .slice ao rs.length cap, .string t, .string tm]] w (@NormP (rawN rs hS.1) (conV (bM s rs t) r s tm) r s (rawC t) (rcs rs) (rawM r tm) 1100 w) := by
 have hvl : ∀ W, Below w.heap.size w W → Calls Tryz.prog 32 #[.agg #[.int .i64 r, .int .i64 s, .slice ao rs.length cap, .string t, .string tm]] W fun e w' => e = .returned (.bool (conV (bM s rs t) r s tm)) ∧ Below W.heap.size W w' := fun W hW => con_all.2 (fun W2 hW2 => refValidR (hC.far (hW.trans (hW2.mono hW.size))) hS) (by omega)
 cases hV : conV (bM s rs t) r s tm with
 | false =>
   rw [hV] at hvl;exact (refNormalNo hvl).mono fun e w' h => .inl ⟨rfl, h⟩
 | true =>
   rw [hV] at hvl;obtain ⟨hv, -, htm, hk⟩ := raw_con hV hm;have hl := raw_lin hC hv hS;rw [htm] at hvl ⊢;have := @refNorm_any (rawN rs hS.1) _ _ _ _ _ _ _ _ _ _ _ hl hk (by decide) hvl;rwa [← htm] at this ⊢
end
end Go.Proofs.YteoklapcifonaaaGreatDoor

/- normalComparison for every relation and sort. -/
import Derived.Test.YtgfoljpjdmeooaaGreatDoorWLY
namespace Go.Proofs.YtgfoljpjdmeooaaGreatDoor
open Go.RowKit Nmx

/-- the boxes of normalComparison -/
structure NG (w W : World) (T : Nat) (r s : Int) (a1 : Option Addr) (n1 c1 : Nat) (t1 : ByteArray) (x0 x1 x2 x3 x4 x5 : Value) (k : Rat) : Prop where
  a : W.heap[w.heap.size]? = some (.cells #[.int .i64 r, .int .i64 s, .slice a1 n1 c1, .string t1, .string ⟨#[]⟩] 39 (0, 0))
  r : W.heap[w.heap.size + 1]? = some (.cells #[.int .i64 0, .int .i64 0, .slice none 0 0, .string ⟨#[]⟩, .string ⟨#[]⟩] 39 (0, 0))
  t : W.heap[T]? = some (.cells #[x0, x1, x2, x3, x4, x5] 72 (0, 0))
  kv : RV W (.agg #[x0, x1, x2, x3, x4, x5]) k
  lt : w.heap.size + 1 < T
  bel : Below w.heap.size w W
theorem NG.far {w W W' : World} {T : Nat} {r s : Int} {a1 : Option Addr} {n1 c1 : Nat} {t1 : ByteArray} {x0 x1 x2 x3 x4 x5 : Value} {k : Rat} (h : NG w W T r s a1 n1 c1 t1 x0 x1 x2 x3 x4 x5 k) (hb : Below W.heap.size W W') : NG w W' T r s a1 n1 c1 t1 x0 x1 x2 x3 x4 x5 k :=
  ⟨(hb.block _ (lt_of_heap h.a)).trans h.a, (hb.block _ (lt_of_heap h.r)).trans h.r, (hb.block _ (lt_of_heap h.t)).trans h.t, h.kv.far hb, h.lt, h.bel.trans (hb.mono h.bel.size)⟩
theorem NG.put {w W : World} {T : Nat} {r s : Int} {a1 : Option Addr} {n1 c1 : Nat} {t1 : ByteArray} {x0 x1 x2 x3 x4 x5 : Value} {k : Rat} (h : NG w W T r s a1 n1 c1 t1 x0 x1 x2 x3 x4 x5 k) {y0 y1 y2 y3 y4 y5 : Value} {q : Rat} (hq : RV W (.agg #[y0, y1, y2, y3, y4, y5]) q) : NG w ((((((W.setCell ⟨T, 0, none⟩ y0).setCell ⟨T, 1, none⟩ y1).setCell ⟨T, 2, none⟩ y2).setCell ⟨T, 3, none⟩ y3).setCell ⟨T, 4, none⟩ y4).setCell ⟨T, 5, none⟩ y5) T r s a1 n1 c1 t1 y0 y1 y2 y3 y4 y5 q := by
  have h1 := h.lt;have ho : ∀ g, g ≠ T → ((((((W.setCell ⟨T, 0, none⟩ y0).setCell ⟨T, 1, none⟩ y1).setCell ⟨T, 2, none⟩ y2).setCell ⟨T, 3, none⟩ y3).setCell ⟨T, 4, none⟩ y4).setCell ⟨T, 5, none⟩ y5).heap[g]? = W.heap[g]? := fun _ hg => set6_other hg _ _ _ _ _ _
  exact ⟨(ho _ (by omega)).trans h.a, (ho _ (by omega)).trans h.r, set6_heap h.t _ _ _ _ _ _, hq.but h.t (by decide) ho, h1, set6_below h.bel (by omega) _ _ _ _ _ _⟩
theorem NG.but {w W W' : World} {T : Nat} {r s : Int} {a1 : Option Addr} {n1 c1 : Nat} {t1 : ByteArray} {x0 x1 x2 x3 x4 x5 : Value} {k : Rat} (h : NG w W T r s a1 n1 c1 t1 x0 x1 x2 x3 x4 x5 k) {B : Nat} {cs : Array Value} {fr : Nat × Nat} (hB : W.heap[B]? = some (.cells cs 39 fr)) (hT : T < B) (ho : ∀ g, g ≠ B → W'.heap[g]? = W.heap[g]?) (hb : Below w.heap.size w W') : NG w W' T r s a1 n1 c1 t1 x0 x1 x2 x3 x4 x5 k := by
  have h1 := h.lt;exact ⟨(ho _ (by omega)).trans h.a, (ho _ (by omega)).trans h.r, (ho _ (by omega)).trans h.t, h.kv.but hB (by decide) ho, h1, hb⟩
/-- whether the first coefficient is below 0 -/
def neg0 : List (List UInt8 × Rat) → Bool
  | [] => false
  | x :: _ => decide (x.2.num < 0)
theorem sgnI_neg (z : Int) : sgnI z < 0 ↔ z < 0 := by
  unfold sgnI
  split
  · constructor <;> intro <;> omega
  · split <;> constructor <;> intro <;> omega
/-- the factor of the normal form -/
def kF (r : Int) (cs : List (List UInt8 × Rat)) : Rat := if r = 3 ∧ neg0 cs = true then -kP cs else kP cs
/-- a comparison is handed back -/
def GetsN (r s : Int) (d : Nat) (c : Rat) (f : List UInt8 → Rat) (w : World) (e : Ending) (w' : World) : Prop := ∃ rs ao n cp tx, e = .returned (.agg #[.int .i64 r, .int .i64 s, .slice ao n cp, .string tx, .string ⟨#[]⟩]) ∧ LV w' (.agg #[.int .i64 s, .slice ao n cp, .string tx]) s d c rs ∧ (∀ n, cof rs n = f n) ∧ Below w.heap.size w w'
section
set_option maxRecDepth 100000
set_option maxHeartbeats 8000000
theorem normalCmp {d : Nat} {w : World} {r s : Int} {a1 : Option Addr} {n1 c1 : Nat} {t1 : ByteArray} {p k : Rat} {cs : List (List UInt8 × Rat)} {post : Ending → World → Prop} (h : LV w (.agg #[.int .i64 s, .slice a1 n1 c1, .string t1]) s d p cs) (hne : cs ≠ []) (hr : r = 1 ∨ r = 2 ∨ r = 3) (hs : s = 2 ∨ s = 3) {K : Nat} (dk0 : DS K (kP cs)) (hdK : 2 * d + 1 ≤ K) (hd : K ≤ 640) (hE : Env w) (hk : kF r cs = k)
    (hA : s = 3 → ∀ e w', GetsN r s (3 * K + 2) (k * p) (fun n => k * cof cs n) w e w' → post e w')
    (hB : s = 2 → r = 1 → ∀ e w', GetsN 1 s (3 * K + 2) ((ceI (k * p) : Int) : Rat) (fun n => k * cof cs n) w e w' → post e w')
    (hC : s = 2 → r = 2 → ∀ e w', GetsN 1 s (3 * K + 2) ((flI (k * p) + 1 : Int) : Rat) (fun n => k * cof cs n) w e w' → post e w')
    (hD : s = 2 → r = 3 → (k * p).den = 1 → ∀ e w', GetsN 3 s (3 * K + 2) (k * p) (fun n => k * cof cs n) w e w' → post e w')
    (hF : s = 2 → r = 3 → (k * p).den ≠ 1 → ∀ e w', GetsN 2 s (3 * K + 2) 0 (fun _ => 0) w e w' → post e w') :
    Calls Tryz.prog 55 #[.agg #[.int .i64 r, .int .i64 s, .slice a1 n1 c1, .string t1, .string ⟨#[]⟩]] w post := by
  have h0 := h;obtain ⟨a1', g1, o1, c1', he, hc1, hty, hg1, d1⟩ := h;injection he with he;injection he with he;injection he with _ he;injection he with he1 he;injection he with he2 he;injection he1 with e1 e2 e3;injection he2 with e4;subst e1 e3 e2 e4;clear he;have hcl := can_len hg1.can hg1.nm
  have dk : DS K k := by
    rw [← hk]; unfold kF
    split
    · exact dk0.neg
    · exact dk0
  obtain ⟨x0, tl, hcs⟩ : ∃ x tl, cs = x :: tl := by
    cases cs with
    | nil => exact absurd rfl hne
    | cons x tl => exact ⟨x, tl, rfl⟩
  have hlen : 0 < cs.length := List.length_pos_iff.2 hne;have had := hc1.ad (by have := hc1.le; omega)
  have hnu : w.cell? ⟨g1, o1 + 0 * 2 + 1, none⟩ = some (.string (TX x0.2)) := by
    have := hc1.nu 0 hlen
    simpa [hcs] using this
  have hkn : r = 3 → x0.2.num < 0 → k = -kP cs := fun h1 h2 => by rw [← hk]; unfold kF; rw [if_pos ⟨h1, by rw [hcs]; exact decide_eq_true h2⟩]
  have hkp : (r = 3 → ¬ x0.2.num < 0) → k = kP cs := fun h1 => by
    rw [← hk]; unfold kF; rw [if_neg];rintro ⟨h2, h3⟩;rw [hcs] at h3;exact h1 h2 (of_decide_eq_true h3)
  have hsg := fun W hW => numSignT (hg1.ds x0 (by rw [hcs]; exact List.mem_cons_self)) (by omega) W hW
  have hpr : ∀ W, Below w.heap.size w W → Calls Tryz.prog 101 #[.slice a1 cs.length c1] W (GetsQ (kP cs) W) := fun W hW => primitive_any W cs a1 g1 o1 c1 (hc1.far hW) hg1 hne (by omega) (hE.far hW)
  have hsc : ∀ W u, Below w.heap.size w W → RV W u k → Calls Tryz.prog 42 #[.agg #[.int .i64 s, .slice a1 cs.length c1, .string (TX p)], u] W (GetsL s (3 * K + 1) (k * p) (fun n => k * cof cs n) W) := fun W u hW hu => by
    exact scaleL ((h0.far hW).mono (e := K) (by omega)) hu dk (by omega) (hE.far hW)
  have dkp : DS (K + d) (k * p) := dk.mul d1;have hmk : ∀ W, Below w.heap.size w W → Calls Tryz.prog 43 #[.string (TX (k * p))] W (GetsQ (k * p) W) := fun W hW => mustT dkp (by omega) W (hE.far hW)
  have hce : ∀ W u, RV W u (k * p) → Calls Tryz.prog 103 #[u] W (GetsI (ceI (k * p)) W) := fun W u hu => ratCeil_any u _ W hu (ds_rs (k := 150) dkp (by omega)) (by omega)
  have hfl : ∀ W u, RV W u (k * p) → Calls Tryz.prog 104 #[u] W (GetsI (flI (k * p)) W) := fun W u hu => ratFloor_any u _ W hu (ds_rs (k := 150) dkp (by omega)) (by omega)
  have hii : ∀ W u, RV W u (k * p) → Calls Tryz.prog 51 #[u] W fun e w' => e = .returned (.bool (decide ((k * p).den = 1))) ∧ Below W.heap.size W w' := fun W u hu => ratIsInt_any u _ W hu
  have hst : ∀ W u z, Below w.heap.size w W → IV W u z → Calls Tryz.prog 99 #[u] W fun e w' => e = .returned (.string (TX ((z : Int) : Rat))) ∧ Below W.heap.size W w' := fun W u z hW hu => intString_any hu (hE.far hW)
  have hdc : DS (3 * K + 2) ((ceI (k * p) : Int) : Rat) := (ds_ce dkp).mono (by omega);have dfl : DS (K + d + 1) ((flI (k * p) : Int) : Rat) := dkp.fl;have hft : Fit (flI (k * p)) := fit_ten (k := K + d + 1) (by have := dfl.1; rw [Rat.num_intCast] at this; exact Nat.le_of_lt this) (by omega);have hf1 : Fit 1 := fit_ten (k := 1) (by decide) (by decide)
  have hdf : DS (3 * K + 2) ((flI (k * p) + 1 : Int) : Rat) := by
    rw [Rat.intCast_add];exact (dfl.add (DS.one (d := K + d + 1) (by omega))).mono (by omega)
  have hdk : DS (3 * K + 2) (k * p) := dkp.mono (by omega);obtain ⟨n1, hn1⟩ : ∃ n, cs.length = n := ⟨_, rfl⟩
  have hn0 : 0 < n1 := by omega
  rw [hn1] at hpr hsc ⊢;clear hn1 h0 dk dk0 dkp hcs hk hc1 hty hg1 hne hlen;obtain ⟨m1, m2, mb⟩ := newL2 w (.cells #[.int .i64 r, .int .i64 s, .slice a1 n1 c1, .string (TX p), .string ⟨#[]⟩] 39) (.cells #[.int .i64 0, .int .i64 0, .slice none 0 0, .string ⟨#[]⟩, .string ⟨#[]⟩] 39);have HM1 := Lib.hid m1;have HM2 := Lib.hid m2;have HMB := Lib.hid mb;have HPR := Lib.hid hpr;have HSC := Lib.hid hsc;have HMK := Lib.hid hmk;have HCE := Lib.hid hce;have HFL := Lib.hid hfl;have HII := Lib.hid hii;have HST := Lib.hid hst;have HDC := Lib.hid hdc;have HDF := Lib.hid hdf;have HFT := Lib.hid hft;have HF1 := Lib.hid hf1;have HDK := Lib.hid hdk;obtain ⟨zs, hzs⟩ : ∃ z, sgnI x0.2.num = z := ⟨_, rfl⟩
  have hzn := sgnI_neg x0.2.num;rw [hzs] at hsg hzn;have HSG := Lib.hid hsg;have HZN := Lib.hid hzn;have HNU := Lib.hid hnu;have HKN := Lib.hid hkn;have HKP := Lib.hid hkp;have HA := Lib.hid hA;have HBB := Lib.hid hB;have HC := Lib.hid hC;have HDD := Lib.hid hD;have HFF := Lib.hid hF;have HEV := Lib.hid hE;subst had;clear hzs hzn m1 m2 mb hpr hsc hmk hce hfl hii hst hdc hdf dfl hdk hft hf1 hsg hnu hkn hkp hA hB hC hD hF hE d1 hcl;generalize TX p = t1 at *;generalize TX x0.2 = t0 at *;obtain ⟨tk, htk⟩ : ∃ tk, TX (k * p) = tk := ⟨_, rfl⟩
  have HTK := Lib.hid htk;rw [htk] at HMK;clear htk
  go_enter Tryz.func55, Tryz.ntmps55
  go_wp2_with fail
  generalize (w.alloc (.cells #[.int .i64 r, .int .i64 s, .slice (some ⟨g1, o1, none⟩) n1 c1, .string t1, .string ⟨#[]⟩] 39)).alloc (.cells #[.int .i64 0, .int .i64 0, .slice none 0 0, .string ⟨#[]⟩, .string ⟨#[]⟩] 39) = w3 at *;refine (HPR.out _ HMB.out).mono ?_;rintro e w4 ⟨v4, rfl, hv, hb⟩;obtain ⟨s3, b3, ao3, n3, c3, s4, b4, ao4, n4, c4, rfl, i1, i2⟩ := rv_form hv;have hal : Below w4.heap.size w4 (w4.alloc (.cells #[.int .i64 s3, .bool b3, .slice ao3 n3 c3, .int .i64 s4, .bool b4, .slice ao4 n4 c4] 72)) := (Below.refl _ _).alloc (Nat.le_refl _) _;have hb2 := hb.trans (hal.mono hb.size);have hlt := lt_of_heap ((hb.block _ (lt_of_heap HM2.out)).trans HM2.out)
  have hNG : NG w (w4.alloc (.cells #[.int .i64 s3, .bool b3, .slice ao3 n3 c3, .int .i64 s4, .bool b4, .slice ao4 n4 c4] 72)) w4.heap.size r s (some ⟨g1, o1, none⟩) n1 c1 t1 (.int .i64 s3) (.bool b3) (.slice ao3 n3 c3) (.int .i64 s4) (.bool b4) (.slice ao4 n4 c4) (kP cs) :=
    ⟨(hb2.block _ (lt_of_heap HM1.out)).trans HM1.out, (hb2.block _ (lt_of_heap HM2.out)).trans HM2.out, heap_alloc_new _ _, hv.far hal, hlt, HMB.out.trans (hb2.mono HMB.out.size)⟩
  have HK := Lib.hid hNG;clear hv hb i1 i2 hal hb2 hlt hNG
  go_upto_region 2 with fail
  generalize w4.alloc (.cells #[.int .i64 s3, .bool b3, .slice ao3 n3 c3, .int .i64 s4, .bool b4, .slice ao4 n4 c4] 72) = w5 at *;generalize w4.heap.size = T at *;clear HM1 HM2 HMB HPR
  go_cut [21] (fun s21 wx => ∃ bn : Bool, s21 = .bool bn ∧ (bn = true → k = -kP cs) ∧ (bn = false → k = kP cs) ∧ NG w wx T r s (some ⟨g1, o1, none⟩) n1 c1 t1 (.int .i64 s3) (.bool b3) (.slice ao3 n3 c3) (.int .i64 s4) (.bool b4) (.slice ao4 n4 c4) (kP cs))
  case first =>
    have q0 := heap_cell HK.out.a 0
    by_cases hr3 : r = 3
    · subst hr3;have q2 := heap_cell HK.out.a 2
      have hn5 : w5.cell? ⟨g1, o1 + 1, none⟩ = some (.string t0) := by
        have := HNU.out;rw [Nat.zero_mul, Nat.add_zero] at this;exact (HK.out.bel.cell (World.block_lt_of_cell? _ _ this)).trans this
      have hn0' : (0 : Int) < (n1 : Int) := by omega
      go_wp2_with fail
      refine (HSG.out _ (HEV.out.far HK.out.bel)).mono ?_;rintro e w6 ⟨rfl, hb⟩;replace HK := Lib.hid (HK.out.far hb);clear hb q0 q2 hn5
      by_cases hz : zs < 0
      · have hkk := HKN.out trivial (HZN.out.1 hz);have HKK := Lib.hid hkk;clear hkk
        go_wp2_with fail
        go_meet
        exact ⟨_, rfl, fun _ => HKK.out, fun h => by first | (exfalso; simp at h; omega) | (simp at h; done), HK.out⟩
      · have hkk := HKP.out (fun _ => by have := HZN.out; omega);have HKK := Lib.hid hkk;clear hkk
        go_wp2_with fail
        go_meet
        exact ⟨_, rfl, fun h => by first | (exfalso; simp at h; omega) | (simp at h; done), fun _ => HKK.out, HK.out⟩
    · have hkk := HKP.out (fun h => absurd h hr3);have HKK := Lib.hid hkk;clear hkk
      go_wp2_with fail
      go_meet
      exact ⟨_, rfl, fun h => by first | (exfalso; simp at h; omega) | (simp at h; done), fun _ => HKK.out, HK.out⟩
  case rest =>
    obtain ⟨bn, rfl, hb1, hb2, hK⟩ := hcut;replace HK := Lib.hid hK;have HB1 := Lib.hid hb1;have HB2 := Lib.hid hb2;clear hK hb1 hb2 HKN HKP HZN HSG
    go_upto_if 21 with fail
    go_cut [] (fun wx => ∃ s7 b7 a7 n7 c7 s8 b8 a8 n8 c8, NG w wx T r s (some ⟨g1, o1, none⟩) n1 c1 t1 (.int .i64 s7) (.bool b7) (.slice a7 n7 c7) (.int .i64 s8) (.bool b8) (.slice a8 n8 c8) k)
    case first =>
      cases bn with
      | true =>
        have hkk := HB1.out rfl;have HKK := Lib.hid hkk;clear hkk;have z0 := heap_cell HK.out.t 0;have z1 := heap_cell HK.out.t 1;have z2 := heap_cell HK.out.t 2;have z3 := heap_cell HK.out.t 3;have z4 := heap_cell HK.out.t 4;have z5 := heap_cell HK.out.t 5
        go_wp2_with fail
        refine (ratNeg_any _ _ _ HK.out.kv).mono ?_;rintro e w7 ⟨v7, rfl, hv, hb⟩;replace HK := Lib.hid (HK.out.far hb);obtain ⟨s7, b7, a7, n7, c7, s8, b8, a8, n8, c8, rfl, -⟩ := rv_form hv;have HK7 := Lib.hid (HK.out.put hv);rw [← HKK.out] at HK7;clear hv hb z0 z1 z2 z3 z4 z5;have z0 := heap_cell HK.out.t 0;have z1 := heap_cell HK.out.t 1;have z2 := heap_cell HK.out.t 2;have z3 := heap_cell HK.out.t 3;have z4 := heap_cell HK.out.t 4;have z5 := heap_cell HK.out.t 5;have fr := fun i => heap_fz HK.out.t i
        go_wp2_with fail
        go_meet
        exact ⟨_, _, _, _, _, _, _, _, _, _, HK7.out⟩
      | false =>
        have hkk := HB2.out rfl;rw [← hkk] at HK;have HK2 := HK;clear hkk
        go_wp2_with fail
        go_meet
        exact ⟨_, _, _, _, _, _, _, _, _, _, HK2.out⟩
    case rest =>
      obtain ⟨s3, b3, ao3, n3, c3, s4, b4, ao4, n4, c4, hK⟩ := hcut;replace HK := Lib.hid hK;clear hK HB1 HB2
      go_wp2_with fail
      refine add_region [[], [0], [], [2], [], [2, 3, 4], [0, 1, 2, 3, 4, 5], [], [0, 1, 2, 3, 4, 5, 6, 7]] (fun W => NG w W T r s (some ⟨g1, o1, none⟩) n1 c1 t1 (.int .i64 s3) (.bool b3) (.slice ao3 n3 c3) (.int .i64 s4) (.bool b4) (.slice ao4 n4 c4) k) (fun _ => True) ?_
      iterate 5
        apply a_con
        · intro x; go_simp; done
        · intro x W R hW hF hR;have p0 := heap_cell hW.a 0;have p1 := heap_cell hW.a 1;have p2 := heap_cell hW.a 2;have p3 := heap_cell hW.a 3;have z0 := heap_cell hW.t 0;have z1 := heap_cell hW.t 1;have z2 := heap_cell hW.t 2;have z3 := heap_cell hW.t 3;have z4 := heap_cell hW.t 4;have z5 := heap_cell hW.t 5;clear hF;unfold addAt
          go_simp
          simp only [addUpon];exact hR _ (Below.refl _ _)
        simp only [Act.put, List.setIfInBounds_toArray, List.set_cons_zero, List.set_cons_succ]
      refine a_opq (fun v W => ∃ rs, LV W (v) s (3 * K + 1) (k * p) rs ∧ ∀ n, cof rs n = k * cof cs n) (fun _ _ _ h hb => let ⟨rs, h1, h2⟩ := h; ⟨rs, h1.far hb, h2⟩) ?_ ?_ ?_
      · intro x; go_simp; done
      · intro x W R hW hF hR;clear hF;unfold addAt
        go_simp
        simp only [addUpon];refine (HSC.out W _ hW.bel hW.kv).mono ?_;rintro e w' ⟨rs, v, rfl, hl, hf, hb⟩;exact ⟨v, rfl, hR _ _ ⟨rs, hl, hf⟩ hb⟩
      simp only [Act.put, List.setIfInBounds_toArray, List.set_cons_zero, List.set_cons_succ, List.length_cons, List.length_nil, Nat.zero_add, Nat.reduceAdd];refine a_opq (fun v W => ∃ rs ao n c tx, v = .agg #[.int .i64 r, .int .i64 s, .slice ao n c, .string tx, .string ⟨#[]⟩] ∧ LV W (.agg #[.int .i64 s, .slice ao n c, .string tx]) s (3 * K + 1) (k * p) rs ∧ ∀ n, cof rs n = k * cof cs n) (fun _ _ _ h hb => let ⟨rs, ao, n, c, tx, h0, h1, h2⟩ := h; ⟨rs, ao, n, c, tx, h0, h1.far hb, h2⟩) ?_ ?_ ?_
      · intro x; go_simp; done
      · intro x W R hW hF hR;have hu := hF.1.2 rfl rfl rfl;simp only [AK.fact] at hu;obtain ⟨rs, hl, hf⟩ := hu;have HL := Lib.hid hl;have HF := Lib.hid hf;obtain ⟨ao, g, off, c, hx, -⟩ := hl;have HX := Lib.hid hx;simp only [hx];clear hF hx hf;unfold addAt
        go_simp
        simp only [addUpon];exact hR _ _ ⟨rs, ao, _, c, _, rfl, by rw [← HX.out]; exact HL.out, HF.out⟩ (Below.refl _ _)
      simp only [Act.put, List.setIfInBounds_toArray, List.set_cons_zero, List.set_cons_succ, List.length_cons, List.length_nil, Nat.zero_add, Nat.reduceAdd];refine a_new (fun B W => T < B ∧ W.heap[B]? = some (.cells #[.int .i64 0, .int .i64 0, .slice none 0 0, .string ⟨#[]⟩, .string ⟨#[]⟩] 39 (0, 0))) (fun _ _ _ h hb => ⟨h.1, (hb.block _ (lt_of_heap h.2)).trans h.2⟩) ?_ ?_ ?_
      · intro x; go_simp; done
      · intro x W R hW hF hR;clear hF;unfold addAt
        go_simp
        simp only [addUpon];exact hR _ ⟨lt_of_heap hW.t, heap_alloc_new _ _⟩ ((Below.refl _ _).alloc (Nat.le_refl _) _) (by simp)
      simp only [Act.put, List.setIfInBounds_toArray, List.set_cons_zero, List.set_cons_succ, List.length_cons, List.length_nil, Nat.zero_add, Nat.reduceAdd];refine a_wrt (fun x W => ∃ B rs ao n c tx, x 7 = .pointer (some ⟨B, 0, none⟩) ∧ T < B ∧ W.heap[B]? = some (.cells #[.int .i64 r, .int .i64 s, .slice ao n c, .string tx, .string ⟨#[]⟩] 39 (0, 0)) ∧ NG w W T r s (some ⟨g1, o1, none⟩) n1 c1 t1 (.int .i64 s3) (.bool b3) (.slice ao3 n3 c3) (.int .i64 s4) (.bool b4) (.slice ao4 n4 c4) k ∧ tx = tk ∧ LV W (.agg #[.int .i64 s, .slice ao n c, .string tx]) s (3 * K + 1) (k * p) rs ∧ ∀ n, cof rs n = k * cof cs n) (fun _ _ _ h hb => let ⟨B, rs, ao, n, c, tx, h1, h2, h3, h4, h0, h5, h6⟩ := h; ⟨B, rs, ao, n, c, tx, h1, h2, (hb.block _ (lt_of_heap h3)).trans h3, h4.far hb, h0, h5.far hb, h6⟩) (fun x x' w hx hT => let ⟨B, rs, ao, n, c, tx, h1, h⟩ := hT; ⟨B, rs, ao, n, c, tx, (hx 7 (.inr (List.contains_iff_mem.1 rfl))).symm.trans h1, h⟩) ?_ ?_ ?_
      · intro x; go_simp; done
      · intro x W R hW hF hD hR;have hu := hF.2.1.2 rfl rfl rfl;have hb := hF.1.2 rfl rfl rfl;simp only [AK.fact] at hu hb;obtain ⟨B, hx7, hTB, hB⟩ := hb;obtain ⟨rs, ao, n, c, tx, hx6, hl, hf⟩ := hu
        have htx : tx = tk := by
          obtain ⟨_, _, _, _, he, -⟩ := hl;injection he with he;injection he with he;injection he with _ he;injection he with _ he;injection he with he _;injection he with he;rw [he]; exact HTK.out
        have HL := Lib.hid hl;have HF := Lib.hid hf;have HTX := Lib.hid htx;simp only [hx7, hx6];have e0 := heap_cell hB 0;have e1 := heap_cell hB 1;have e2 := heap_cell hB 2;have e3 := heap_cell hB 3;have e4 := heap_cell hB 4;have fr := fun i => heap_fz hB i
        clear hF hD hl hf htx;unfold addAt
        go_simp
        simp only [addUpon];have hlt := hW.lt;have ho : ∀ g, g ≠ B → (((((W.setCell ⟨B, 0, none⟩ (.int .i64 r)).setCell ⟨B, 1, none⟩ (.int .i64 s)).setCell ⟨B, 2, none⟩ (.slice ao n c)).setCell ⟨B, 3, none⟩ (.string tx)).setCell ⟨B, 4, none⟩ (.string ⟨#[]⟩)).heap[g]? = W.heap[g]? := fun g hg => set5_other _ _ _ _ _ hg
        refine hR _ _ ⟨B, rs, ao, n, c, tx, (updX_ne (i := 8) (j := 7) _ _ (by decide)).trans hx7, hTB, set5_heap hB _ _ _ _ _, ⟨(ho _ (by omega)).trans hW.a, (ho _ (by omega)).trans hW.r, (ho _ (by omega)).trans hW.t, hW.kv.but hB (by decide) ho, hlt, set5_below hW.bel (by omega) _ _ _ _ _⟩, HTX.out, HL.out.but hB (by decide) ho, HF.out⟩ trivial (by simp [World.setCell])
      simp only [Act.put];refine a_nil (by kernel_rfl) (by kernel_rfl) (by kernel_rfl) (fun _ _ h hb => h.far hb) (fun _ _ _ _ => trivial) (fun _ _ => trivial) (HK.out.far (Below.refl _ _).drew) ?_;intro x W hE hW hF hD;clear hD;obtain ⟨B, rs, ao, n, c, tx, hx7, hTB, hB, hN, htx, hl, hf⟩ := hF.1.2 rfl;subst htx;simp only [hx7];have HB := Lib.hid hB;have HN := Lib.hid hN;have HL := Lib.hid hl;have HF := Lib.hid hf;clear hF hW hx7 hB hN hl hf;rcases hs with rfl | rfl
      · have p1 := heap_cell HN.out.a 1;have e3 := heap_cell HB.out 3
        go_wp2_with fail
        refine (HMK.out _ HN.out.bel).mono ?_;rintro e w6 ⟨v6, rfl, hv, hb⟩;replace HB := Lib.hid ((hb.block _ (lt_of_heap HB.out)).trans HB.out);replace HN := Lib.hid (HN.out.far hb);replace HL := Lib.hid (HL.out.far hb);have HV6 := Lib.hid hv;obtain ⟨s5, b5, ao5, n5, c5, s6, b6, ao6, n6, c6, rfl, -⟩ := rv_form hv;clear hb hv p1 e3;have z0 := heap_cell HN.out.t 0;have z1 := heap_cell HN.out.t 1;have z2 := heap_cell HN.out.t 2;have z3 := heap_cell HN.out.t 3;have z4 := heap_cell HN.out.t 4;have z5 := heap_cell HN.out.t 5;have fr := fun i => heap_fz HN.out.t i
        go_upto_region 8 with fail
        have hN7 := HN.out.put HV6.out;have ho7 : ∀ g, g ≠ T → ((((((w6.setCell ⟨T, 0, none⟩ (.int .i64 s5)).setCell ⟨T, 1, none⟩ (.bool b5)).setCell ⟨T, 2, none⟩ (.slice ao5 n5 c5)).setCell ⟨T, 3, none⟩ (.int .i64 s6)).setCell ⟨T, 4, none⟩ (.bool b6)).setCell ⟨T, 5, none⟩ (.slice ao6 n6 c6)).heap[g]? = w6.heap[g]? := fun _ hg => set6_other hg _ _ _ _ _ _
        have hTB6 : B ≠ T := by omega
        replace HB := Lib.hid ((ho7 B hTB6).trans HB.out);replace HL := Lib.hid (HL.out.but HN.out.t (by decide) ho7);replace HN := Lib.hid hN7;clear hN7 ho7 z0 z1 z2 z3 z4 z5 fr HV6;generalize (((((w6.setCell ⟨T, 0, none⟩ (.int .i64 s5)).setCell ⟨T, 1, none⟩ (.bool b5)).setCell ⟨T, 2, none⟩ (.slice ao5 n5 c5)).setCell ⟨T, 3, none⟩ (.int .i64 s6)).setCell ⟨T, 4, none⟩ (.bool b6)).setCell ⟨T, 5, none⟩ (.slice ao6 n6 c6) = w7 at *;have p0 := heap_cell HN.out.a 0;have z0 := heap_cell HN.out.t 0;have z1 := heap_cell HN.out.t 1;have z2 := heap_cell HN.out.t 2;have z3 := heap_cell HN.out.t 3;have z4 := heap_cell HN.out.t 4;have z5 := heap_cell HN.out.t 5;rcases hr with rfl | rfl | rfl
        · go_wp2_with fail
          refine (HCE.out _ _ HN.out.kv).mono ?_;rintro e w8 ⟨v8, rfl, hv, hb⟩;replace HN := Lib.hid (HN.out.far hb);replace HB := Lib.hid ((hb.block _ (lt_of_heap HB.out)).trans HB.out);replace HL := Lib.hid (HL.out.far hb);have HV8 := Lib.hid hv;clear hb hv p0 z0 z1 z2 z3 z4 z5
          go_wp2_with fail
          obtain ⟨tz, htz⟩ : ∃ tz, TX ((ceI (k * p) : Int) : Rat) = tz := ⟨_, rfl⟩
          have hst2 := HST.out w8 v8 _ HN.out.bel HV8.out;rw [htz] at hst2;have HTZ := Lib.hid htz;clear htz;refine hst2.mono ?_;rintro e w9 ⟨rfl, hb⟩;replace HN := Lib.hid (HN.out.far hb);replace HB := Lib.hid ((hb.block _ (lt_of_heap HB.out)).trans HB.out);replace HL := Lib.hid (HL.out.far hb);clear hb hst2;have fr3 := fun i => heap_fz HB.out i
          have e0 := heap_cell HB.out 0;have e1 := heap_cell HB.out 1;have e2 := heap_cell HB.out 2;have e3 := heap_cell HB.out 3;have e4 := heap_cell HB.out 4
          go_upto_region 15 with fail
          have ho : ∀ g, g ≠ B → (w9.setCell ⟨B, 3, none⟩ (.string tz)).heap[g]? = w9.heap[g]? := fun g hg => Below.heap_setCell _ _ _ _ hg
          have hlt9 := HN.out.lt;have hbl := HN.out.bel.setCell (p := ⟨B, 3, none⟩) (show w.heap.size ≤ B by omega) (.string tz);have hB10 := heap_set HB.out 3 (.string tz)
          simp at hB10
          replace HL := Lib.hid (HL.out.but HB.out (by decide) ho);replace HN := Lib.hid (HN.out.but HB.out hTB ho hbl);replace HB := Lib.hid hB10;clear ho hB10 hbl hlt9 fr3 e0 e1 e2 e3 e4;generalize w9.setCell ⟨B, 3, none⟩ (.string tz) = w10 at *;have e0 := heap_cell HB.out 0;have e1 := heap_cell HB.out 1;have e2 := heap_cell HB.out 2;have e3 := heap_cell HB.out 3;have e4 := heap_cell HB.out 4;have r0 := heap_cell HN.out.r 0;have r1 := heap_cell HN.out.r 1;have r2 := heap_cell HN.out.r 2;have r3 := heap_cell HN.out.r 3;have r4 := heap_cell HN.out.r 4;have fr := fun i => heap_fz HN.out.r i
          go_wp2_with fail
          refine end_con rfl rfl rfl (set5_heap HN.out.r _ _ _ _ _) ?_;refine HBB.out trivial trivial _ _ ⟨rs, ao, n, c, tz, rfl, ?_, HF.out, set5_below HN.out.bel (by omega) _ _ _ _ _⟩;have hlv := HL.out.const HDC.out (by omega);rw [HTZ.out] at hlv;exact hlv.but HN.out.r (by decide) (fun g hg => set5_other _ _ _ _ _ hg)
        · clear z0 z1 z2 z3 z4 z5;have fr3 := fun i => heap_fz HB.out i
          have e0 := heap_cell HB.out 0;have e1 := heap_cell HB.out 1;have e2 := heap_cell HB.out 2;have e3 := heap_cell HB.out 3;have e4 := heap_cell HB.out 4
          go_upto_region 12 with fail
          have ho : ∀ g, g ≠ B → (w7.setCell ⟨B, 0, none⟩ (.int .i64 1)).heap[g]? = w7.heap[g]? := fun g hg => Below.heap_setCell _ _ _ _ hg
          have hlt9 := HN.out.lt;have hbl := HN.out.bel.setCell (p := ⟨B, 0, none⟩) (show w.heap.size ≤ B by omega) (.int .i64 1);have hB10 := heap_set HB.out 0 (.int .i64 1)
          simp at hB10
          replace HL := Lib.hid (HL.out.but HB.out (by decide) ho);replace HN := Lib.hid (HN.out.but HB.out hTB ho hbl);replace HB := Lib.hid hB10;clear ho hB10 hbl hlt9 fr3 e0 e1 e2 e3 e4;generalize w7.setCell ⟨B, 0, none⟩ (.int .i64 1) = w8 at *;clear p0;have z0 := heap_cell HN.out.t 0;have z1 := heap_cell HN.out.t 1;have z2 := heap_cell HN.out.t 2;have z3 := heap_cell HN.out.t 3;have z4 := heap_cell HN.out.t 4;have z5 := heap_cell HN.out.t 5
          go_wp2_with fail
          refine (HFL.out _ _ HN.out.kv).mono ?_;rintro e w9 ⟨v9, rfl, hv, hb⟩;replace HN := Lib.hid (HN.out.far hb);replace HB := Lib.hid ((hb.block _ (lt_of_heap HB.out)).trans HB.out);replace HL := Lib.hid (HL.out.far hb);have HV9 := Lib.hid hv;clear hb hv z0 z1 z2 z3 z4 z5
          go_wp2_with fail
          refine (fromInt64_any 1 _ (by decide) (by decide)).mono ?_;rintro e w10 ⟨v10, rfl, hv, hb⟩;replace HN := Lib.hid (HN.out.far hb);replace HB := Lib.hid ((hb.block _ (lt_of_heap HB.out)).trans HB.out);replace HL := Lib.hid (HL.out.far hb);replace HV9 := Lib.hid (HV9.out.far hb);have HV10 := Lib.hid hv;clear hb hv
          go_wp2_with fail
          refine (add_any _ _ _ _ _ HV9.out HV10.out HFT.out HF1.out).mono ?_;rintro e w11 ⟨v11, rfl, hv, hb⟩;replace HN := Lib.hid (HN.out.far hb);replace HB := Lib.hid ((hb.block _ (lt_of_heap HB.out)).trans HB.out);replace HL := Lib.hid (HL.out.far hb);have HV11 := Lib.hid hv;clear hb hv HV9 HV10
          go_wp2_with fail
          obtain ⟨tz, htz⟩ : ∃ tz, TX ((flI (k * p) + 1 : Int) : Rat) = tz := ⟨_, rfl⟩
          have hst2 := HST.out w11 v11 _ HN.out.bel HV11.out;rw [htz] at hst2;have HTZ := Lib.hid htz;clear htz;refine hst2.mono ?_;rintro e w12 ⟨rfl, hb⟩;replace HN := Lib.hid (HN.out.far hb);replace HB := Lib.hid ((hb.block _ (lt_of_heap HB.out)).trans HB.out);replace HL := Lib.hid (HL.out.far hb);clear hb hst2;have fr3 := fun i => heap_fz HB.out i
          have e0 := heap_cell HB.out 0;have e1 := heap_cell HB.out 1;have e2 := heap_cell HB.out 2;have e3 := heap_cell HB.out 3;have e4 := heap_cell HB.out 4
          go_upto_region 15 with fail
          have ho : ∀ g, g ≠ B → (w12.setCell ⟨B, 3, none⟩ (.string tz)).heap[g]? = w12.heap[g]? := fun g hg => Below.heap_setCell _ _ _ _ hg
          have hlt9 := HN.out.lt;have hbl := HN.out.bel.setCell (p := ⟨B, 3, none⟩) (show w.heap.size ≤ B by omega) (.string tz);have hB10 := heap_set HB.out 3 (.string tz)
          simp at hB10
          replace HL := Lib.hid (HL.out.but HB.out (by decide) ho);replace HN := Lib.hid (HN.out.but HB.out hTB ho hbl);replace HB := Lib.hid hB10;clear ho hB10 hbl hlt9 fr3 e0 e1 e2 e3 e4;generalize w12.setCell ⟨B, 3, none⟩ (.string tz) = w13 at *;have e0 := heap_cell HB.out 0;have e1 := heap_cell HB.out 1;have e2 := heap_cell HB.out 2;have e3 := heap_cell HB.out 3;have e4 := heap_cell HB.out 4;have r0 := heap_cell HN.out.r 0;have r1 := heap_cell HN.out.r 1;have r2 := heap_cell HN.out.r 2;have r3 := heap_cell HN.out.r 3;have r4 := heap_cell HN.out.r 4;have fr := fun i => heap_fz HN.out.r i
          go_wp2_with fail
          refine end_con rfl rfl rfl (set5_heap HN.out.r _ _ _ _ _) ?_;refine HC.out trivial trivial _ _ ⟨rs, ao, n, c, tz, rfl, ?_, HF.out, set5_below HN.out.bel (by omega) _ _ _ _ _⟩;have hlv := HL.out.const HDF.out (by omega);rw [HTZ.out] at hlv;exact hlv.but HN.out.r (by decide) (fun g hg => set5_other _ _ _ _ _ hg)
        · go_wp2_with fail
          refine (HII.out _ _ HN.out.kv).mono ?_;rintro e w8 ⟨rfl, hb⟩;replace HN := Lib.hid (HN.out.far hb);replace HB := Lib.hid ((hb.block _ (lt_of_heap HB.out)).trans HB.out);replace HL := Lib.hid (HL.out.far hb);clear hb p0 z0 z1 z2 z3 z4 z5
          by_cases hden : (k * p).den = 1
          · have HDN := Lib.hid hden;rw [decide_eq_true hden];clear hden;have e0 := heap_cell HB.out 0;have e1 := heap_cell HB.out 1;have e2 := heap_cell HB.out 2;have e3 := heap_cell HB.out 3;have e4 := heap_cell HB.out 4;have r0 := heap_cell HN.out.r 0;have r1 := heap_cell HN.out.r 1;have r2 := heap_cell HN.out.r 2;have r3 := heap_cell HN.out.r 3;have r4 := heap_cell HN.out.r 4;have fr := fun i => heap_fz HN.out.r i
            go_wp2_with fail
            refine end_con rfl rfl rfl (set5_heap HN.out.r _ _ _ _ _) ?_;exact HDD.out trivial trivial HDN.out _ _ ⟨rs, ao, n, c, tx, rfl, (HL.out.mono (by omega)).but HN.out.r (by decide) (fun g hg => set5_other _ _ _ _ _ hg), HF.out, set5_below HN.out.bel (by omega) _ _ _ _ _⟩
          · have HDN := Lib.hid hden;rw [decide_eq_false hden];clear hden
            go_wp2_with fail
            refine (constant_any false 2 _).mono ?_;rintro e w9 ⟨rfl, hb⟩;replace HN := Lib.hid (HN.out.far hb);replace HB := Lib.hid ((hb.block _ (lt_of_heap HB.out)).trans HB.out);replace HL := Lib.hid (HL.out.far hb);clear hb;have r0 := heap_cell HN.out.r 0;have r1 := heap_cell HN.out.r 1;have r2 := heap_cell HN.out.r 2;have r3 := heap_cell HN.out.r 3;have r4 := heap_cell HN.out.r 4;have fr := fun i => heap_fz HN.out.r i
            go_wp2_with fail
            refine end_con rfl rfl rfl (set5_heap HN.out.r _ _ _ _ _) ?_;exact HFF.out trivial trivial HDN.out _ _ ⟨[], none, 0, 0, _, rfl, (nilLV _ 2 _), fun _ => rfl, set5_below HN.out.bel (by omega) _ _ _ _ _⟩
      · have p1 := heap_cell HN.out.a 1;have e0 := heap_cell HB.out 0;have e1 := heap_cell HB.out 1;have e2 := heap_cell HB.out 2;have e3 := heap_cell HB.out 3;have e4 := heap_cell HB.out 4;have r0 := heap_cell HN.out.r 0;have r1 := heap_cell HN.out.r 1;have r2 := heap_cell HN.out.r 2;have r3 := heap_cell HN.out.r 3;have r4 := heap_cell HN.out.r 4;have fr := fun i => heap_fz HN.out.r i
        go_wp2_with fail
        refine end_con rfl rfl rfl (set5_heap HN.out.r _ _ _ _ _) ?_;exact HA.out trivial _ _ ⟨rs, ao, n, c, tx, rfl, (HL.out.mono (by omega)).but HN.out.r (by decide) (fun g hg => set5_other _ _ _ _ _ hg), HF.out, set5_below HN.out.bel (by omega) _ _ _ _ _⟩
end
end Go.Proofs.YtgfoljpjdmeooaaGreatDoor

/- The reference's Normal at comparisons with coefficients. -/
import Derived.Test.YteoklapcifonaaaGreatDoorNKC
import Derived.Test.YteoklapcifonaaaGreatDoorNTF
import Derived.Test.YteoklapcifonaaaGreatDoorNMH
import Derived.Test.YteoklapcifonaaaGreatDoorNKB
open Go.Lib (hid)
namespace Go.Proofs.YteoklapcifonaaaGreatDoor
open Go.RowKit Nmx
theorem numL_lt {K : Type} {d e D : Nat} (l : List (K × Rat)) (hz : ∀ x ∈ l, x.2 ≠ 0) (hd : ∀ x ∈ l, DS d x.2) (hD : DS e ((D : Nat) : Rat)) (h0 : 0 < D) : numL D 0 l < 10 ^ (d + e) := by
 cases l with
 | nil => exact ten_pos _
 | cons x l =>
   obtain ⟨-, hg, -⟩ := numL_dvd D (x :: l) 0;have h3 := ((hd x (by simp)).mul hD).1;have h4 := hg x (by simp)
   have h5 : (x.2 * ((D : Nat) : Rat)).num.natAbs ≠ 0 := by
    intro e;have e1 : (x.2 * ((D : Nat) : Rat)).num = 0 := by omega
    rcases Rat.mul_eq_zero.1 (Rat.num_eq_zero.1 e1) with h | h
    · exact hz x (by simp) h
    · have := Rat.natCast_inj.1 (show ((D : Nat) : Rat) = ((0 : Nat) : Rat) from h)
      omega
   have h6 := Nat.le_of_dvd (by omega) h4
   omega
theorem ds_nat {k n : Nat} (h : n < 10 ^ k) : DS k ((n : Nat) : Rat) := by
 have := DS.int (d := k) (z := (n : Nat)) (by simpa using h);rwa [Rat.intCast_natCast] at this
theorem denL_ds {d : Nat} {cs : List (List UInt8 × Rat)} (hd : ∀ x ∈ cs, DS d x.2) (hl : cs.length ≤ 8) (k : Nat) : DS (d * 8 + 1) ((ar 1 (cs.take k) : Nat) : Rat) := by
 refine ds_nat ?_;have h1 := denL_le (cs.take k) (fun x hx => hd x (List.mem_of_mem_take hx)) 1;have h2 : (cs.take k).length ≤ 8 := Nat.le_trans (by rw [List.length_take]; exact Nat.min_le_right _ _) hl;have h3 : 10 ^ (d * (cs.take k).length) ≤ 10 ^ (d * 8) := Nat.pow_le_pow_right (by omega) (Nat.mul_le_mul_left _ h2);have h4 : 10 ^ (d * 8) < 10 ^ (d * 8 + 1) := Nat.pow_lt_pow_right (by omega) (by omega)
 omega
theorem set3m {w : World} {T : Nat} {x0 x1 x2 x3 x4 y1 y2 y3 : Value} {t : TypeId} (h : w.heap[T]? = some (.cells #[x0, x1, x2, x3, x4] t (0, 0))) : (((w.setCell ⟨T, 1, none⟩ y1).setCell ⟨T, 2, none⟩ y2).setCell ⟨T, 3, none⟩ y3).heap[T]? = some (.cells #[x0, y1, y2, y3, x4] t (0, 0)) :=
 heap_setCell_same _ T 3 _ _ y3 (heap_setCell_same _ T 2 _ _ y2 (heap_setCell_same w T 1 _ _ y1 h))
theorem set3m_other {w : World} {T : Nat} (y1 y2 y3 : Value) {g : Nat} (hg : g ≠ T) : (((w.setCell ⟨T, 1, none⟩ y1).setCell ⟨T, 2, none⟩ y2).setCell ⟨T, 3, none⟩ y3).heap[g]? = w.heap[g]? :=
 (Below.heap_setCell _ _ _ _ hg).trans ((Below.heap_setCell _ _ _ _ hg).trans (Below.heap_setCell _ _ _ _ hg))
theorem set1c {w : World} {T : Nat} {x0 x1 x2 x3 x4 y3 : Value} {t : TypeId} (h : w.heap[T]? = some (.cells #[x0, x1, x2, x3, x4] t (0, 0))) : (w.setCell ⟨T, 3, none⟩ y3).heap[T]? = some (.cells #[x0, x1, x2, y3, x4] t (0, 0)) :=
 heap_setCell_same w T 3 _ _ y3 h
theorem set2c {w : World} {T : Nat} {x0 x1 x2 x3 x4 y0 y3 : Value} {t : TypeId} (h : w.heap[T]? = some (.cells #[x0, x1, x2, x3, x4] t (0, 0))) : ((w.setCell ⟨T, 0, none⟩ y0).setCell ⟨T, 3, none⟩ y3).heap[T]? = some (.cells #[y0, x1, x2, y3, x4] t (0, 0)) :=
 heap_setCell_same _ T 3 _ _ y3 (heap_setCell_same w T 0 _ _ y0 h)
section
set_option maxRecDepth 100000
set_option maxHeartbeats 8000000
theorem refNormal_ne [Nms] {d : Nat} {w : World} {r s : Int} {a1 : Option Addr} {n1 c1 : Nat} {t1 : ByteArray} {p : Rat} {cs : List (List UInt8 × Rat)} (h : LVi w (.agg #[.int .i64 s, .slice a1 n1 c1, .string t1]) s d p cs) (hne : cs ≠ []) (hr : r = 1 ∨ r = 2 ∨ r = 3) (hs : s = 2 ∨ s = 3) (hd : d ≤ 60)
    (hvl : ∀ W, Below w.heap.size w W → Calls Tryz.prog 32 #[.agg #[.int .i64 r, .int .i64 s, .slice a1 n1 c1, .string t1, .string ⟨#[]⟩]] W fun e w' => e = .returned (.bool true) ∧ Below W.heap.size W w') :
    Calls Tryz.prog 33 #[.agg #[.int .i64 r, .int .i64 s, .slice a1 n1 c1, .string t1, .string ⟨#[]⟩]] w fun e w' => ∃ r' c' f', NF r s p cs r' c' f' ∧ GetsNE r' s (12 * d + 8) c' f' w e w' := by
 have h0 := h;obtain ⟨a1', g, off, c1', he, hC, -, hg, dp⟩ := h;injection he with he;injection he with he;injection he with _ he;injection he with he1 he;injection he with he2 he;injection he1 with e1 e2 e3;injection he2 with e4;subst e1 e3 e2 e4;clear he;have hcl := can_len8 hg;have hnz := can_nz hg.can;have hDS := denL_ds hg.ds hcl
 have hdd : ∀ k (hk : k < cs.length), DS (d + 1) ((cs[k].2.den : Nat) : Rat) := fun k hk => by
  have := (hg.ds _ (List.getElem_mem hk)).den;rwa [Rat.intCast_natCast] at this
 have hden : ∀ k (hk : k < cs.length) W, Calls Tryz.prog 79 #[.string (TX cs[k].2)] W (aT ((cs[k].2.den : Nat) : Rat) W) := fun k hk W => refDenT (hg.ds _ (List.getElem_mem hk)) (by omega) W
 have hlcm : ∀ k (hk : k < cs.length) W, Calls Tryz.prog 78 #[.string (TX ((ar 1 (cs.take k) : Nat) : Rat)), .string (TX ((cs[k].2.den : Nat) : Rat))] W (aT ((ar 1 (cs.take (k + 1)) : Nat) : Rat) W) := fun k hk W => by
  rw [List.take_succ_eq_append_getElem hk, denL_snoc];exact refLcmI (hDS k) (hdd k hk) (by omega) (by omega) (denL_pos _ _ (by omega)) (Nat.pos_of_ne_zero cs[k].2.den_nz) W
 have hD1 : DS (d * 8 + 1) ((ar 1 cs : Nat) : Rat) := by
  have := hDS cs.length;rwa [List.take_length] at this
 have hDp : 0 < ar 1 cs := denL_pos _ _ (by omega);have hint : ∀ k (hk : k < cs.length), cs[k].2 * ((ar 1 cs : Nat) : Rat) = (((cs[k].2 * ((ar 1 cs : Nat) : Rat)).num : Int) : Rat) := fun k hk => rat_int (mul_den_int ((denL_dvd cs 1).2 _ (List.getElem_mem hk)))
 have hmul : ∀ k (hk : k < cs.length) W, Calls Tryz.prog 81 #[.string (TX cs[k].2), .string (TX ((ar 1 cs : Nat) : Rat))] W (aT (((cs[k].2 * ((ar 1 cs : Nat) : Rat)).num : Int) : Rat) W) := fun k hk W => by
  rw [← hint k hk];exact refMulT (hg.ds _ (List.getElem_mem hk)) hD1 (by omega) (by omega) W
 have hnl : ∀ k, DS (d + (d * 8 + 1)) ((numL (ar 1 cs) 0 (cs.take k) : Nat) : Rat) := fun k => ds_nat (numL_lt _ (fun x hx => hnz x (List.mem_of_mem_take hx)) (fun x hx => hg.ds x (List.mem_of_mem_take hx)) hD1 hDp)
 have hgcd : ∀ k (hk : k < cs.length) W, Calls Tryz.prog 80 #[.string (TX ((numL (ar 1 cs) 0 (cs.take k) : Nat) : Rat)), .string (TX (((cs[k].2 * ((ar 1 cs : Nat) : Rat)).num : Int) : Rat))] W (aT ((numL (ar 1 cs) 0 (cs.take (k + 1)) : Nat) : Rat) W) := fun k hk W => by
  have h1 := hnl k;have h2 := (hg.ds _ (List.getElem_mem hk)).mul hD1;rw [hint k hk] at h2;rw [← Rat.intCast_natCast] at h1;have := refGcdI h1 h2 (by omega) (by omega) W;rw [Rat.intCast_natCast] at this;rw [List.take_succ_eq_append_getElem hk, numL_snoc, ← Rat.intCast_natCast (Nat.gcd _ _)];exact this
 have hnp := (prim_is hne hnz).1
 have hnlc : DS (d + (d * 8 + 1)) ((numL (ar 1 cs) 0 cs : Nat) : Rat) := by
  have := hnl cs.length;rwa [List.take_length] at this
 have hdiv : ∀ W, Calls Tryz.prog 22 #[.string (TX ((ar 1 cs : Nat) : Rat)), .string (TX ((numL (ar 1 cs) 0 cs : Nat) : Rat))] W (aT (kP cs) W) := fun W =>
  refDivT hD1 hnlc (by omega) (by omega) (by rw [← Rat.intCast_natCast, Rat.num_intCast]; omega) W
 have dk0 : DS (9 * d + 2) (kP cs) := kP_ds hne hnz hg.ds hcl;have hneg : ∀ W, Calls Tryz.prog 82 #[.string (TX (kP cs))] W (aT (-kP cs) W) := fun W => refNegT dk0 (by omega) W
 have dk : DS (9 * d + 2) (kF r cs) := by
  unfold kF
  split
  · exact dk0.neg
  · exact dk0
 have dkp : DS (10 * d + 2) (kF r cs * p) := (dk.mul dp).mono (by omega)
 have htm : ∀ W, Below w.heap.size w W → Calls Tryz.prog 83 #[.agg #[.int .i64 s, .slice a1 cs.length c1, .string (TX p)], .string (TX (kF r cs))] W (GetsL s (12 * d + 8) (kF r cs * p) (fun n => kF r cs * cof cs n) W) := fun W hW =>
  (timesR (h0.far hW) dk (by omega) (by omega)).mono fun e w' ⟨rs, v, h1, h2, h3, h4⟩ => ⟨rs, v, h1, h2.mono (by omega), h3, h4⟩
 have hce : ∀ W, Calls Tryz.prog 84 #[.string (TX (kF r cs * p))] W (aT ((ceI (kF r cs * p) : Int) : Rat) W) := fun W => refCeilT dkp (by omega) W
 have hfl : ∀ W, Calls Tryz.prog 86 #[.string (TX (kF r cs * p))] W (aT ((flI (kF r cs * p) : Int) : Rat) W) := fun W => refFloorT dkp (by omega) W
 have dfl : DS (10 * d + 3) ((flI (kF r cs * p) : Int) : Rat) := dkp.fl
 have had1 : ∀ W, Calls Tryz.prog 85 #[.string (TX ((flI (kF r cs * p) : Int) : Rat)), .string ⟨#[49]⟩] W (aT ((flI (kF r cs * p) + 1 : Int) : Rat) W) := fun W => by
  have h1 : (⟨#[49]⟩ : ByteArray) = TX 1 := tx_of (by decide +kernel);rw [h1, Rat.intCast_add];exact refAddT dfl (DS.one (d := 1) (by decide)) (by omega) (by omega) W
 have hii : ∀ W, Calls Tryz.prog 41 #[.string (TX (kF r cs * p))] W fun e w' => e = .returned (.bool (decide ((kF r cs * p).den = 1))) ∧ Below W.heap.size W w' := fun W => bA dkp (by omega) W
 have dce : DS (12 * d + 8) ((ceI (kF r cs * p) : Int) : Rat) := (ds_ce dkp).mono (by omega)
 have dad : DS (12 * d + 8) ((flI (kF r cs * p) + 1 : Int) : Rat) := by
  rw [Rat.intCast_add];exact (dfl.add (DS.one (d := 1) (by decide))).mono (by omega)
 obtain ⟨x0, tl, hcs⟩ : ∃ x tl, cs = x :: tl := by
  cases cs with
  | nil => exact absurd rfl hne
  | cons x tl => exact ⟨x, tl, rfl⟩
 have hlen : 0 < cs.length := List.length_pos_iff.2 hne;have had := hC.ad (by have := hC.le; omega);subst had
 have hnu : w.cell? ⟨g, off + 1, none⟩ = some (.string (TX x0.2)) := by
  have := hC.nu 0 hlen
  simpa [hcs] using this
 have hsg : ∀ W, Calls Tryz.prog 75 #[.string (TX x0.2)] W fun e w' => e = .returned (.int .i64 (bc x0.2.num)) ∧ Below W.heap.size W w' := fun W => refSignT (hg.ds x0 (by rw [hcs]; exact List.mem_cons_self)) (by omega) W
 have hzn := sgnI_neg x0.2.num;have hkn : r = 3 → x0.2.num < 0 → kF r cs = -kP cs := fun h1 h2 => by unfold kF; rw [if_pos ⟨h1, by rw [hcs]; exact decide_eq_true h2⟩]
 have hkp : (r = 3 → ¬ x0.2.num < 0) → kF r cs = kP cs := fun h1 => by
  unfold kF; rw [if_neg];rintro ⟨h2, h3⟩;rw [hcs] at h3;exact h1 h2 (of_decide_eq_true h3)
 have hnf : ∀ r' c' f', ((s = 3 ∧ r' = r ∧ c' = kF r cs * p ∧ f' = fun n => kF r cs * cof cs n) ∨ (s = 2 ∧ r = 1 ∧ r' = 1 ∧ c' = ((ceI (kF r cs * p) : Int) : Rat) ∧ f' = fun n => kF r cs * cof cs n) ∨ (s = 2 ∧ r = 2 ∧ r' = 1 ∧ c' = ((flI (kF r cs * p) + 1 : Int) : Rat) ∧ f' = fun n => kF r cs * cof cs n) ∨
  (s = 2 ∧ r = 3 ∧ (kF r cs * p).den = 1 ∧ r' = 3 ∧ c' = kF r cs * p ∧ f' = fun n => kF r cs * cof cs n) ∨ (s = 2 ∧ r = 3 ∧ (kF r cs * p).den ≠ 1 ∧ r' = 2 ∧ c' = 0 ∧ f' = fun _ => 0)) → NF r s p cs r' c' f' := fun r' c' f' h => .inr ⟨hne, h⟩
 have hlst : ∀ k, k = cs.length → cs.take k = cs := fun k hk => by rw [hk]; exact List.take_length
 have tx1 : (⟨#[49]⟩ : ByteArray) = TX ((ar 1 (cs.take 0) : Nat) : Rat) := tx_of (by rw [List.take_zero]; decide +kernel);have tx0 : (⟨#[48]⟩ : ByteArray) = TX ((numL (ar 1 cs) 0 (cs.take 0) : Nat) : Rat) := tx_of (by rw [List.take_zero]; show ap _ = some ((0 : Nat) : Rat); decide +kernel);have hle := hC.le;have hmost := hC.most;obtain ⟨n1, hn1⟩ : ∃ n, cs.length = n := ⟨_, rfl⟩
 have hn0 : 0 < n1 := by omega
 have HN := hid hn1;rw [hn1] at hvl htm hle ⊢;obtain ⟨m1, m2, mb⟩ := newL2 w (.cells #[.int .i64 r, .int .i64 s, .slice (some ⟨g, off, none⟩) n1 c1, .string (TX p), .string ⟨#[]⟩] 39) (.cells #[.int .i64 0, .int .i64 0, .slice none 0 0, .string ⟨#[]⟩, .string ⟨#[]⟩] 39);have HK := hid (⟨m1, m2, mb⟩ : NBX w _ r s (some ⟨g, off, none⟩) n1 c1 (TX p));have HVL := hid hvl;have HC := hid hC;have HDEN := hid hden;have HLCM := hid hlcm;have HMUL := hid hmul;have HGCD := hid hgcd;have HDIV := hid hdiv;have HNEG := hid hneg;have HTM := hid htm;have HCE := hid hce;have HFL := hid hfl;have HAD := hid had1;have HII := hid hii;have HDC := hid dce;have HDA := hid dad;have HSG := hid hsg;have HZN := hid hzn;have HKN := hid hkn;have HKP := hid hkp;have HNU := hid hnu;have HNF := hid hnf;have HL := hid hlst;have HT1 := hid tx1;have HT0 := hid tx0;clear m1 m2 mb hvl hC hden hlcm hmul hgcd hdiv hneg htm hce hfl had1 hii dce dad hsg hzn hkn hkp hnu hnf hlst tx1 tx0 hn1 h0 hne hcl hnz hDS hdd hD1 hDp hint hnl hnp hnlc dk0 dk dkp dfl hcs hlen hg dp;obtain ⟨tp, htp⟩ : ∃ t, TX p = t := ⟨_, rfl⟩
 rw [htp] at HK HVL HTM ⊢;clear htp;have q4 : (r == 4) = false := by rw [beq_eq_false_iff_ne]; omega
 have q5 : (r == 5) = false := by rw [beq_eq_false_iff_ne]; omega
 have d4 : decide (r = 4) = false := decide_eq_false (by omega);have d5 : decide (r = 5) = false := decide_eq_false (by omega);have hnn : ((n1 : Int) == 0) = false := by rw [beq_eq_false_iff_ne]; omega
 have hnd : decide ((n1 : Int) = 0) = false := decide_eq_false (by omega)
 go_enter Tryz.func33, Tryz.ntmps33
 go_wp2_with fail
 generalize (w.alloc (.cells #[.int .i64 r, .int .i64 s, .slice (some ⟨g, off, none⟩) n1 c1, .string tp, .string ⟨#[]⟩] 39)).alloc (.cells #[.int .i64 0, .int .i64 0, .slice none 0 0, .string ⟨#[]⟩, .string ⟨#[]⟩] 39) = w3 at *;refine (HVL.out _ HK.out.bel).mono ?_;rintro e w4 ⟨rfl, hb⟩;replace HK := hid (HK.out.far hb);clear hb HVL;have p0 := aa HK.out.a 0;have p2 := aa HK.out.a 2
 go_wp2_with fail
 clear p0 p2 q4 q5 d4 d5 hnn hnd
 go_loopg [6, 7] n1 (fun gh v6 v7 wr => ∃ k : Nat, gh = n1 - k ∧ k ≤ n1 ∧ v7 = .int .i64 k ∧ v6 = .string (TX ((ar 1 (cs.take k) : Nat) : Rat)) ∧ NBX w wr r s (some ⟨g, off, none⟩) n1 c1 tp)
 case atStart => exact ⟨0, rfl, Nat.zero_le _, rfl, by rw [HT1.out], HK.out⟩
 case round =>
  obtain ⟨k, rfl, hk, rfl, rfl, hx⟩ := hrel;replace HK := hid hx;clear hx;have p2 := aa HK.out.a 2;have hk0 : (0 : Int) ≤ (k : Int) := by omega
  by_cases hlt : k < n1
  · have hlti : (k : Int) < (n1 : Int) := by omega
    have hl : k < cs.length := by rw [HN.out]; exact hlt
    have c2 := (HC.out.far HK.out.bel).nu k hl;have h1 := HDEN.out k hl;have h2 := HLCM.out k hl;unfold aT at h1 h2;obtain ⟨tq, htq⟩ : ∃ t, TX (cs[k]'hl).2 = t := ⟨_, rfl⟩
    rw [htq] at c2 h1;obtain ⟨td, htd⟩ : ∃ t, TX (((cs[k]'hl).2.den : Nat) : Rat) = t := ⟨_, rfl⟩
    rw [htd] at h1 h2;obtain ⟨te, hte⟩ : ∃ t, TX ((ar 1 (cs.take (k + 1)) : Nat) : Rat) = t := ⟨_, rfl⟩
    rw [hte] at h2;have HTE := hid hte;have H1 := hid h1;have H2 := hid h2;clear h1 h2 htq htd hte hl;generalize TX ((ar 1 (cs.take k) : Nat) : Rat) = tl at *
    go_wp2_with fail
    refine (H1.out wr).mono ?_;rintro e w5 ⟨rfl, hb⟩;replace HK := hid (HK.out.far hb);clear hb p2 c2
    go_wp2_with fail
    refine (H2.out w5).mono ?_;rintro e w6 ⟨rfl, hb⟩;replace HK := hid (HK.out.far hb);clear hb
    go_wp2_with fail
    go_roundg (n1 - (k + 1))
    case rel => exact ⟨k + 1, rfl, by omega, by go_num, by rw [HTE.out], HK.out⟩
    case measure => omega
  obtain rfl : k = n1 := by omega
  have hlti : ¬ ((k : Int) < (k : Int)) := by omega
  rw [HL.out k HN.out.symm];obtain ⟨tD, htD⟩ : ∃ t, TX ((ar 1 cs : Nat) : Rat) = t := ⟨_, rfl⟩
  rw [htD];have hmul := HMUL.out;have hdiv := HDIV.out;unfold aT at hmul hdiv;rw [htD] at hmul hdiv;have HMUL2 := hid hmul;have HDIV2 := hid hdiv;clear hmul hdiv htD HMUL HDIV HDEN HLCM
  go_wp2_with fail
  clear p2 hlti hlt
  go_loopg [5, 8] k (fun gh v5 v8 wr => ∃ j : Nat, gh = k - j ∧ j ≤ k ∧ v8 = .int .i64 j ∧ v5 = .string (TX ((numL (ar 1 cs) 0 (cs.take j) : Nat) : Rat)) ∧ NBX w wr r s (some ⟨g, off, none⟩) k c1 tp)
  case atStart => exact ⟨0, rfl, Nat.zero_le _, rfl, by rw [HT0.out], HK.out⟩
  case round =>
   obtain ⟨j, rfl, hj, rfl, rfl, hx⟩ := hrel;replace HK := hid hx;clear hx;have p2 := aa HK.out.a 2;have hj0 : (0 : Int) ≤ (j : Int) := by omega
   by_cases hlt : j < k
   · have hlti : (j : Int) < (k : Int) := by omega
     have hl : j < cs.length := by rw [HN.out]; exact hlt
     have c2 := (HC.out.far HK.out.bel).nu j hl;have h1 := HMUL2.out j hl;have h2 := HGCD.out j hl;unfold aT at h2;obtain ⟨tq, htq⟩ : ∃ t, TX (cs[j]'hl).2 = t := ⟨_, rfl⟩
     rw [htq] at c2 h1;obtain ⟨td, htd⟩ : ∃ t, TX (((((cs[j]'hl).2 * ((ar 1 cs : Nat) : Rat)).num : Int) : Rat)) = t := ⟨_, rfl⟩
     rw [htd] at h1 h2;obtain ⟨te, hte⟩ : ∃ t, TX ((numL (ar 1 cs) 0 (cs.take (j + 1)) : Nat) : Rat) = t := ⟨_, rfl⟩
     rw [hte] at h2;have HTE := hid hte;have H1 := hid h1;have H2 := hid h2;clear h1 h2 htq htd hte hl;generalize TX ((numL (ar 1 cs) 0 (cs.take j) : Nat) : Rat) = tl at *
     go_wp2_with fail
     refine (H1.out wr).mono ?_;rintro e w5 ⟨rfl, hb⟩;replace HK := hid (HK.out.far hb);clear hb p2 c2
     go_wp2_with fail
     refine (H2.out w5).mono ?_;rintro e w6 ⟨rfl, hb⟩;replace HK := hid (HK.out.far hb);clear hb
     go_wp2_with fail
     go_roundg (k - (j + 1))
     case rel => exact ⟨j + 1, rfl, by omega, by go_num, by rw [HTE.out], HK.out⟩
     case measure => omega
   obtain rfl : j = k := by omega
   have hlti : ¬ ((j : Int) < (j : Int)) := by omega
   rw [HL.out j HN.out.symm];obtain ⟨tG, htG⟩ : ∃ t, TX ((numL (ar 1 cs) 0 cs : Nat) : Rat) = t := ⟨_, rfl⟩
   rw [htG];have hdiv := HDIV2.out;rw [htG] at hdiv;replace HDIV2 := hid hdiv;clear hdiv htG HMUL2 HGCD
   go_wp2_with fail
   clear p2 hlti hlt;refine (HDIV2.out wr).mono ?_;rintro e w5 ⟨rfl, hb⟩;replace HK := hid (HK.out.far hb);clear hb HDIV2;have p0 := aa HK.out.a 0
   go_upto_region 18 with fail
   clear p0
   go_cut [105] (fun v wx => ∃ bn : Bool, v = .bool bn ∧ (bn = true → kF r cs = -kP cs) ∧ (bn = false → kF r cs = kP cs) ∧ NBX w wx r s (some ⟨g, off, none⟩) j c1 tp)
   case first =>
    have p0 := aa HK.out.a 0
    by_cases hr3 : r = 3
    · have hsn := HSG.out;have hzn := HZN.out;have hkn := HKN.out hr3;have hkp := HKP.out;subst hr3;generalize bc x0.2.num = zs at *;have HSN := hid hsn;have HZ2 := hid hzn;have HK1 := hid hkn;have HK2 := hid hkp;clear hsn hzn hkn hkp;have p2 := aa HK.out.a 2;have q0 := (HK.out.bel.cell (World.block_lt_of_cell? _ _ HNU.out)).trans HNU.out;have hj0 : (0 : Int) < (j : Int) := by omega
      generalize TX x0.2 = tx at *
      go_wp2_with fail
      refine (HSN.out w5).mono ?_;rintro e w6 ⟨rfl, hb⟩;replace HK := hid (HK.out.far hb);clear hb p0 p2 q0
      by_cases hz : zs < 0
      · have hkk := HK1.out (HZ2.out.1 hz);have HKK := hid hkk;clear hkk
        go_wp2_with fail
        go_meet
        exact ⟨_, rfl, fun _ => HKK.out, fun h => by first | (exfalso; simp at h; omega) | (simp at h; done), HK.out⟩
      · have hkk := HK2.out (fun _ => by have := HZ2.out; omega);have HKK := hid hkk;clear hkk
        go_wp2_with fail
        go_meet
        exact ⟨_, rfl, fun h => by first | (exfalso; simp at h; omega) | (simp at h; done), fun _ => HKK.out, HK.out⟩
    · have hkk := HKP.out (fun h => absurd h hr3);have HKK := hid hkk;clear hkk
      go_wp2_with fail
      go_meet
      exact ⟨_, rfl, fun h => by first | (exfalso; simp at h; omega) | (simp at h; done), fun _ => HKK.out, HK.out⟩
   case rest =>
    obtain ⟨bn, rfl, hb1, hb2, hK⟩ := hcut;replace HK := hid hK;have HB1 := hid hb1;have HB2 := hid hb2;clear hK hb1 hb2 HKN HKP HZN HSG HNU;obtain ⟨tk, htk⟩ : ∃ t, TX (kF r cs) = t := ⟨_, rfl⟩
    have htm := HTM.out;rw [htk] at htm;replace HTM := hid htm;have HTK := hid htk;clear htm htk
    go_upto_if 105 with fail
    go_cut [9] (fun v wx => v = .string tk ∧ NBX w wx r s (some ⟨g, off, none⟩) j c1 tp)
    case first =>
     cases bn with
     | true =>
       have hn := HNEG.out;unfold aT at hn;rw [← HB1.out rfl, HTK.out] at hn;have HN2 := hid hn;clear hn;generalize TX (kP cs) = tkp at *
       go_wp2_with fail
       refine (HN2.out _).mono ?_;rintro e w6 ⟨rfl, hb⟩;replace HK := hid (HK.out.far hb);clear hb
       go_wp2_with fail
       go_meet
       exact ⟨rfl, HK.out⟩
     | false =>
       have hkk := HB2.out rfl;have htk := HTK.out;rw [hkk] at htk;rw [htk];clear hkk htk
       go_wp2_with fail
       go_meet
       exact ⟨rfl, HK.out⟩
    case rest =>
     obtain ⟨rfl, hK⟩ := hcut;replace HK := hid hK;clear hK HB1 HB2 HNEG;have p1 := aa HK.out.a 1;have p2 := aa HK.out.a 2;have p3 := aa HK.out.a 3
     go_wp2_with fail
     refine (HTM.out _ HK.out.bel).mono ?_;rintro e w7 ⟨rs, v, rfl, hl, hf, hb⟩;replace HK := hid (HK.out.far hb);have HLV := hid hl;have HF := hid hf;obtain ⟨ao, g', off', cap', rfl, -, -, -, -⟩ := hl;clear hb hf p1 p2 p3 HTM;obtain ⟨tx, htx⟩ : ∃ t, TX (kF r cs * p) = t := ⟨_, rfl⟩
     have HTX := hid htx;rw [htx] at HLV ⊢;clear htx;obtain ⟨n2, hn2⟩ : ∃ n, rs.length = n := ⟨_, rfl⟩
     rw [hn2] at HLV ⊢;clear hn2;have p1 := aa HK.out.a 1;have p2 := aa HK.out.a 2;have p3 := aa HK.out.a 3;have fr := fun i => ah HK.out.a i
     go_upto_region 21 with fail
     clear p1 p2 p3 fr
     have hN : NBX w (((w7.setCell ⟨w.heap.size, 1, none⟩ (.int .i64 s)).setCell ⟨w.heap.size, 2, none⟩ (.slice ao n2 cap')).setCell ⟨w.heap.size, 3, none⟩ (.string tx)) r s ao n2 cap' tx :=
      ⟨set3m HK.out.a, (set3m_other _ _ _ (by omega)).trans HK.out.r, ((HK.out.bel.setCell (Nat.le_refl _) _).setCell (Nat.le_refl _) _).setCell (Nat.le_refl _) _⟩
     have hL : LV (((w7.setCell ⟨w.heap.size, 1, none⟩ (.int .i64 s)).setCell ⟨w.heap.size, 2, none⟩ (.slice ao n2 cap')).setCell ⟨w.heap.size, 3, none⟩ (.string tx)) (.agg #[.int .i64 s, .slice ao n2 cap', .string tx]) s (12 * d + 8) (kF r cs * p) rs :=
      HLV.out.but HK.out.a (by decide) (fun g hg => set3m_other _ _ _ hg)
     replace HK := hid hN;replace HLV := hid hL;clear hN hL;generalize ((w7.setCell ⟨w.heap.size, 1, none⟩ (.int .i64 s)).setCell ⟨w.heap.size, 2, none⟩ (.slice ao n2 cap')).setCell ⟨w.heap.size, 3, none⟩ (.string tx) = w8 at *;have hce := HCE.out;have hfl := HFL.out;have had := HAD.out;have hii := HII.out;unfold aT at hce hfl had;rw [HTX.out] at hce hfl hii;replace HCE := hid hce;replace HFL := hid hfl;replace HAD := hid had;replace HII := hid hii;clear hce hfl had hii;have p0 := aa HK.out.a 0;have p1 := aa HK.out.a 1;have p2 := aa HK.out.a 2;have p3 := aa HK.out.a 3;have p4 := aa HK.out.a 4;rcases hs with rfl | rfl
     rotate_left
     · have r0 := aa HK.out.r 0;have r1 := aa HK.out.r 1;have r2 := aa HK.out.r 2;have r3 := aa HK.out.r 3;have r4 := aa HK.out.r 4;have fr := fun i => ah HK.out.r i
       go_wp2_with fail
       exact end_con2 rfl rfl rfl rfl (az HK.out.r _ _ _ _ _) ⟨r, _, _, HNF.out _ _ _ (.inl ⟨by trivial, rfl, rfl, rfl⟩), rs, ao, n2, cap', tx, rfl, HLV.out.but HK.out.r (by decide) (fun g hg => aN _ _ _ _ _ hg), HF.out, ax HK.out.bel (by omega) _ _ _ _ _⟩
     rcases hr with rfl | rfl | rfl
     · go_wp2_with fail
       refine (HCE.out w8).mono ?_;rintro e w9 ⟨rfl, hb⟩;replace HK := hid (HK.out.far hb);replace HLV := hid (HLV.out.far hb);clear hb p0 p1 p2 p3 p4;obtain ⟨tz, htz⟩ : ∃ t, TX ((ceI (kF 1 cs * p) : Int) : Rat) = t := ⟨_, rfl⟩
       have HTZ := hid htz;rw [htz];clear htz;have p0 := aa HK.out.a 0;have p1 := aa HK.out.a 1;have p2 := aa HK.out.a 2;have p3 := aa HK.out.a 3;have p4 := aa HK.out.a 4;have r0 := aa HK.out.r 0;have r1 := aa HK.out.r 1;have r2 := aa HK.out.r 2;have r3 := aa HK.out.r 3;have r4 := aa HK.out.r 4;have fr := fun i => ah HK.out.r i
       have fs := fun i => ah HK.out.a i
       have hN : NBX w (w9.setCell ⟨w.heap.size, 3, none⟩ (.string tz)) 1 2 ao n2 cap' tz :=
        ⟨set1c HK.out.a, (Below.heap_setCell _ _ _ _ (by simp)).trans HK.out.r, HK.out.bel.setCell (Nat.le_refl _) _⟩
       have hL := (HLV.out.const HDC.out (by omega)).but (w' := w9.setCell ⟨w.heap.size, 3, none⟩ (.string tz)) HK.out.a (by decide) (fun g hg => Below.heap_setCell _ _ _ _ hg);rw [HTZ.out] at hL;have HN2 := hid hN;have HL2 := hid hL;clear hN hL
       go_wp2_with fail
       exact end_con2 rfl rfl rfl rfl (az HN2.out.r _ _ _ _ _) ⟨1, _, _, HNF.out _ _ _ (.inr (.inl ⟨by trivial, by trivial, rfl, rfl, rfl⟩)), rs, ao, n2, cap', tz, rfl, HL2.out.but HN2.out.r (by decide) (fun g hg => aN _ _ _ _ _ hg), HF.out, ax HN2.out.bel (by omega) _ _ _ _ _⟩
     · go_wp2_with fail
       refine (HFL.out w8).mono ?_;rintro e w9 ⟨rfl, hb⟩;replace HK := hid (HK.out.far hb);replace HLV := hid (HLV.out.far hb);clear hb p0 p1 p2 p3 p4;obtain ⟨tw, htw⟩ : ∃ t, TX ((flI (kF 2 cs * p) : Int) : Rat) = t := ⟨_, rfl⟩
       have had := HAD.out;rw [htw] at had ⊢;replace HAD := hid had;clear htw had
       go_wp2_with fail
       refine (HAD.out w9).mono ?_;rintro e wa ⟨rfl, hb⟩;replace HK := hid (HK.out.far hb);replace HLV := hid (HLV.out.far hb);clear hb;obtain ⟨tz, htz⟩ : ∃ t, TX ((flI (kF 2 cs * p) + 1 : Int) : Rat) = t := ⟨_, rfl⟩
       have HTZ := hid htz;rw [htz];clear htz;have p0 := aa HK.out.a 0;have p1 := aa HK.out.a 1;have p2 := aa HK.out.a 2;have p3 := aa HK.out.a 3;have p4 := aa HK.out.a 4;have r0 := aa HK.out.r 0;have r1 := aa HK.out.r 1;have r2 := aa HK.out.r 2;have r3 := aa HK.out.r 3;have r4 := aa HK.out.r 4;have fr := fun i => ah HK.out.r i
       have fs := fun i => ah HK.out.a i
       have hN : NBX w ((wa.setCell ⟨w.heap.size, 0, none⟩ (.int .i64 1)).setCell ⟨w.heap.size, 3, none⟩ (.string tz)) 1 2 ao n2 cap' tz :=
        ⟨set2c HK.out.a, (Below.heap_setCell _ _ _ _ (by simp)).trans ((Below.heap_setCell _ _ _ _ (by simp)).trans HK.out.r), (HK.out.bel.setCell (Nat.le_refl _) _).setCell (Nat.le_refl _) _⟩
       have hL := (HLV.out.const HDA.out (by omega)).but (w' := (wa.setCell ⟨w.heap.size, 0, none⟩ (.int .i64 1)).setCell ⟨w.heap.size, 3, none⟩ (.string tz)) HK.out.a (by decide) (fun g hg => (Below.heap_setCell _ _ _ _ hg).trans (Below.heap_setCell _ _ _ _ hg));rw [HTZ.out] at hL;have HN2 := hid hN;have HL2 := hid hL;clear hN hL
       go_wp2_with fail
       exact end_con2 rfl rfl rfl rfl (az HN2.out.r _ _ _ _ _) ⟨1, _, _, HNF.out _ _ _ (.inr (.inr (.inl ⟨by trivial, by trivial, rfl, rfl, rfl⟩))), rs, ao, n2, cap', tz, rfl, HL2.out.but HN2.out.r (by decide) (fun g hg => aN _ _ _ _ _ hg), HF.out, ax HN2.out.bel (by omega) _ _ _ _ _⟩
     · go_wp2_with fail
       refine (HII.out w8).mono ?_;rintro e w9 ⟨rfl, hb⟩;replace HK := hid (HK.out.far hb);replace HLV := hid (HLV.out.far hb);clear hb p0 p1 p2 p3 p4
       by_cases hi : (kF 3 cs * p).den = 1
       · have HI := hid hi;rw [decide_eq_true hi];clear hi;have p0 := aa HK.out.a 0;have p1 := aa HK.out.a 1;have p2 := aa HK.out.a 2;have p3 := aa HK.out.a 3;have p4 := aa HK.out.a 4;have r0 := aa HK.out.r 0;have r1 := aa HK.out.r 1;have r2 := aa HK.out.r 2;have r3 := aa HK.out.r 3;have r4 := aa HK.out.r 4;have fr := fun i => ah HK.out.r i
         go_wp2_with fail
         exact end_con2 rfl rfl rfl rfl (az HK.out.r _ _ _ _ _) ⟨3, _, _, HNF.out _ _ _ (.inr (.inr (.inr (.inl ⟨by trivial, by trivial, HI.out, rfl, rfl, rfl⟩)))), rs, ao, n2, cap', tx, rfl, HLV.out.but HK.out.r (by decide) (fun g hg => aN _ _ _ _ _ hg), HF.out, ax HK.out.bel (by omega) _ _ _ _ _⟩
       · have HI := hid hi;rw [decide_eq_false hi];clear hi
         go_wp2_with fail
         refine (fixed_any false 2 w9).mono ?_;rintro e wa ⟨rfl, hb⟩;replace HK := hid (HK.out.far hb);clear hb HLV;have r0 := aa HK.out.r 0;have r1 := aa HK.out.r 1;have r2 := aa HK.out.r 2;have r3 := aa HK.out.r 3;have r4 := aa HK.out.r 4;have fr := fun i => ah HK.out.r i
         go_wp2_with fail
         exact end_con2 rfl rfl rfl rfl (az HK.out.r _ _ _ _ _) ⟨2, 0, _, HNF.out _ _ _ (.inr (.inr (.inr (.inr ⟨by trivial, by trivial, HI.out, rfl, rfl, rfl⟩)))), [], none, 0, 0, _, rfl, nilLV _ 2 _, fun _ => rfl, ax HK.out.bel (by omega) _ _ _ _ _⟩
end
end Go.Proofs.YteoklapcifonaaaGreatDoor
/- The reference's divisibility: plain facts and boxes. -/
namespace Go.Proofs.YteoklapcifonaaaGreatDoor
open Go.RowKit Nmx
theorem gcdL_dvd {F : Nat} {zM : Int} (l : List (List UInt8 × Rat)) : ∀ g : Nat, gcdL F zM g l ∣ g ∧ ∀ x ∈ l, gcdL F zM g l ∣ (rsD F zM x.2).natAbs := by
 induction l with
 | nil => exact fun g => ⟨Nat.dvd_refl _, fun x hx => (List.not_mem_nil hx).elim⟩
 | cons y l ih =>
   intro g;obtain ⟨h1, h2⟩ := ih (Nat.gcd g (rsD F zM y.2).natAbs);refine ⟨Nat.dvd_trans h1 (Nat.gcd_dvd_left _ _), fun x hx => ?_⟩;rcases List.mem_cons.1 hx with rfl | hx
   · exact Nat.dvd_trans h1 (Nat.gcd_dvd_right _ _)
   · exact h2 x hx
theorem cof_dvd {F : Nat} {zM : Int} {g : Nat} (l : List (List UInt8 × Rat)) (h : ∀ x ∈ l, g ∣ (rsD F zM x.2).natAbs) (n : List UInt8) : (g : Int) ∣ rsD F zM (cof l n) := by
 induction l with
 | nil =>
   show (g : Int) ∣ rsD F zM 0;rw [rsD_zero]; exact Int.dvd_zero _
 | cons y l ih =>
   obtain ⟨m, q⟩ := y;rw [aW]
   by_cases hm : m = n
   · rw [if_pos hm];exact Int.ofNat_dvd_left.2 (h (m, q) (by simp))
   · rw [if_neg hm];exact ih fun x hx => h x (by simp [hx])
theorem div_exact {z g : Int} (h0 : g ≠ 0) (h : g ∣ z) : (1 / (g : Rat)) * (z : Rat) = ((z / g : Int) : Rat) := by
 obtain ⟨k, rfl⟩ := h;rw [Int.mul_ediv_cancel_left _ h0, Rat.intCast_mul];have hg : (g : Rat) ≠ 0 := fun e => h0 (Rat.intCast_inj.1 (show ((g : Int) : Rat) = ((0 : Int) : Rat) from e))
 rw [← Rat.mul_assoc, Rat.div_mul_cancel hg, Rat.one_mul]
theorem div_exact2 {z g : Int} (h0 : g ≠ 0) (h : g ∣ z) : (z : Rat) / (g : Rat) = ((z / g : Int) : Rat) := by
 rw [← div_exact h0 h, Rat.div_def, Rat.div_def, Rat.one_mul, Rat.mul_comm]
theorem rs_ds {F : Nat} {zM : Int} (h : 0 < zM) (q : Rat) {d : Nat} (hd : DS d (zM : Rat)) : DS d ((rsD F zM q : Int) : Rat) := by
 have := rs_div (F := F) (g := 1) h (by decide) q hd;rwa [Int.ediv_one] at this
theorem denLp_ds {d : Nat} {p : Rat} {cs : List (List UInt8 × Rat)} (hp : DS d p) (hd : ∀ x ∈ cs, DS d x.2) (hl : cs.length ≤ 8) (k : Nat) : DS (d * 9 + 1) ((ar p.den (cs.take k) : Nat) : Rat) := by
 refine ds_nat ?_;have h1 := denL_le (cs.take k) (fun x hx => hd x (List.mem_of_mem_take hx)) p.den;have h2 : (cs.take k).length ≤ 8 := Nat.le_trans (by rw [List.length_take]; exact Nat.min_le_right _ _) hl;have h3 : 10 ^ (d * (cs.take k).length) ≤ 10 ^ (d * 8) := Nat.pow_le_pow_right (by omega) (Nat.mul_le_mul_left _ h2);have h4 : p.den * 10 ^ (d * (cs.take k).length) ≤ 10 ^ d * 10 ^ (d * 8) := Nat.mul_le_mul hp.2 h3;rw [← Nat.pow_add, show d + d * 8 = d * 9 by omega] at h4;have h5 : 10 ^ (d * 9) < 10 ^ (d * 9 + 1) := Nat.pow_lt_pow_right (by omega) (by omega)
 omega
theorem scl_len (f : Rat) (l : List (List UInt8 × Rat)) : (scl f l).length = l.length := List.length_map _
theorem scl_at (f : Rat) (l : List (List UInt8 × Rat)) (k : Nat) (hk : k < l.length) : (scl f l)[k]'(by rw [scl_len]; exact hk) = (l[k].1, f * l[k].2) := List.getElem_map _
/-- the boxes of divisibility -/
structure NBD (w W : World) (r : Int) (a1 : Option Addr) (n1 c1 : Nat) (t1 tm : ByteArray) : Prop where
 a : W.heap[w.heap.size]? = some (.cells #[.int .i64 r, .int .i64 2, .slice a1 n1 c1, .string t1, .string tm] 39 (0, 0))
 r : W.heap[w.heap.size + 1]? = some (.cells #[.int .i64 0, .int .i64 0, .slice none 0 0, .string ⟨#[]⟩, .string ⟨#[]⟩] 39 (0, 0))
 bel : Below w.heap.size w W
/-- .. the expression in L -/
structure NBL (w W : World) (L : Nat) (r : Int) (a1 : Option Addr) (n1 c1 : Nat) (t1 tm : ByteArray) (al : Option Addr) (gl ol nl cl : Nat) (tl : ByteArray) (ls : List (List UInt8 × Rat)) : Prop where
 b : NBD w W r a1 n1 c1 t1 tm
 l : W.heap[L]? = some (.cells #[.int .i64 2, .slice al nl cl, .string tl] 26 (0, 0))
 lc : CSl W al gl ol cl ls
 l1 : w.heap.size + 1 < L
/-- .. what is made in S -/
structure DL (w W : World) (L S : Nat) (r : Int) (a1 : Option Addr) (n1 c1 : Nat) (t1 tm : ByteArray) (al : Option Addr) (gl ol nl cl : Nat) (tl tc : ByteArray) (v v' : Value) (ls rs : List (List UInt8 × Rat)) : Prop where
 n : NBL w W L r a1 n1 c1 t1 tm al gl ol nl cl tl ls
 lt : ls ≠ [] → gl < S
 hs : W.heap[S]? = some (.cells #[.int .i64 2, v, .string tc] 26 (0, 0))
 row : W.ownsRow (S + 1) 79 2 v' rs.length (flat rs)
 l2 : L < S
section
variable {w W W' : World} {L S : Nat} {r : Int} {a1 : Option Addr} {n1 c1 : Nat} {t1 tm : ByteArray} {al : Option Addr} {gl ol nl cl : Nat} {tl tc : ByteArray} {v v' : Value} {ls rs : List (List UInt8 × Rat)}
theorem NBD.far (h : NBD w W r a1 n1 c1 t1 tm) (hb : Below W.heap.size W W') : NBD w W' r a1 n1 c1 t1 tm :=
 ⟨(hb.block _ (ab h.a)).trans h.a, (hb.block _ (ab h.r)).trans h.r, h.bel.trans (hb.mono h.bel.size)⟩
theorem NBL.far (h : NBL w W L r a1 n1 c1 t1 tm al gl ol nl cl tl ls) (hb : Below W.heap.size W W') : NBL w W' L r a1 n1 c1 t1 tm al gl ol nl cl tl ls :=
 ⟨h.b.far hb, (hb.block _ (ab h.l)).trans h.l, h.lc.far hb, h.l1⟩
theorem DL.far (h : DL w W L S r a1 n1 c1 t1 tm al gl ol nl cl tl tc v v' ls rs) (hb : Below W.heap.size W W') : DL w W' L S r a1 n1 c1 t1 tm al gl ol nl cl tl tc v v' ls rs :=
 ⟨h.n.far hb, h.lt, (hb.block _ (ab h.hs)).trans h.hs, row_same h.row fun g hg => hb.block _ (h.row.lt g hg).2, h.l2⟩
theorem CSl.keep {ao : Option Addr} {g off cap : Nat} {cs : List (List UInt8 × Rat)} (h : CSl W ao g off cap cs) (hk : cs ≠ [] → W'.heap[g]? = W.heap[g]?) : CSl W' ao g off cap cs :=
 ⟨h.le, h.most, h.ad, fun i hi => (World.cell?_of_block (w := W) (w' := W') (a := ⟨g, _, none⟩) (hk (fun e => by rw [e] at hi; exact Nat.not_lt_zero _ hi))).trans (h.nm i hi), fun i hi => (World.cell?_of_block (w := W) (w' := W') (a := ⟨g, _, none⟩) (hk (fun e => by rw [e] at hi; exact Nat.not_lt_zero _ hi))).trans (h.nu i hi)⟩
theorem DL.grow {x : List UInt8 × Rat} (h : DL w W L S r a1 n1 c1 t1 tm al gl ol nl cl tl tc v v ls rs) (hg : W.grownBy W' v.ownBlock) (hr : W'.ownsRow (S + 1) 79 2 v' (rs.length + 1) (flat rs ++ [.string ⟨x.1.toArray⟩, .string (TX x.2)])) : DL w W' L S r a1 n1 c1 t1 tm al gl ol nl cl tl tc v v' ls (rs ++ [x]) := by
 have h1 := h.n.l1;have h2 := h.l2;have hlt := ab h.hs;have hne : ∀ g, g ≤ S → some g ≠ v.ownBlock := fun g hgS e => by have := (h.row.lt g e.symm).1; omega
 refine ⟨⟨⟨(hg.block _ (ab h.n.b.a) (hne _ (by omega))).trans h.n.b.a, (hg.block _ (ab h.n.b.r) (hne _ (by omega))).trans h.n.b.r, h.n.b.bel.grown hg h.n.b.bel.size fun g e => by have := (h.row.lt g e).1; omega⟩, (hg.block _ (ab h.n.l) (hne _ (by omega))).trans h.n.l, h.n.lc.keep fun hls => hg.block _ (by have := h.lt hls; omega) (hne _ (by have := h.lt hls; omega)), h1⟩, h.lt, (hg.block S hlt (hne S (Nat.le_refl _))).trans h.hs, ?_, h2⟩;rw [List.length_append, flat_append];exact hr
theorem DL.set (h : DL w W L S r a1 n1 c1 t1 tm al gl ol nl cl tl tc v v' ls rs) : DL w (W.setCell ⟨S, 1, none⟩ v') L S r a1 n1 c1 t1 tm al gl ol nl cl tl tc v' v' ls rs := by
 have h1 := h.n.l1;have h2 := h.l2;have hset : ∀ g, g ≠ S → (W.setCell ⟨S, 1, none⟩ v').heap[g]? = W.heap[g]? := fun g hgS => Below.heap_setCell _ _ _ _ hgS
 refine ⟨⟨⟨(hset _ (by omega)).trans h.n.b.a, (hset _ (by omega)).trans h.n.b.r, h.n.b.bel.setCell (show w.heap.size ≤ S by omega) _⟩, (hset _ (by omega)).trans h.n.l, h.n.lc.keep fun hls => hset _ (by have := h.lt hls; omega), h1⟩, h.lt, ?_, ?_, h2⟩
 · have := heap_setCell_same W S 1 _ _ v' h.hs;exact this
 · exact ownsRow_setCell_below h.row (a := ⟨S, 1, none⟩) (show S < S + 1 by omega) v'
end
end Go.Proofs.YteoklapcifonaaaGreatDoor

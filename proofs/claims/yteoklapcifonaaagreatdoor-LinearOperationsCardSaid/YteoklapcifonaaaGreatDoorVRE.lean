/- The reference's parse at every text. -/
import Derived.Test.YteoklapcifonaaaGreatDoorVRD
open Go.Lib (hid)
namespace Go.Proofs.YteoklapcifonaaaGreatDoor
open Go.RowKit Nmx
open Rf
section
set_option maxRecDepth 100000
set_option maxHeartbeats 4000000
theorem refParse_n6 (s : ByteArray) (w : World) (hs : s.size ≤ 90000) (h0 : 0 < s.size) (hq : ratF s.data.toList = none) (c1 : digF (upto (body s.data.toList)) = true) (c2 : digF (denB (body s.data.toList)) = true) (c3 : denB (body s.data.toList) ≠ [48]) (c4 : trimF (upto (body s.data.toList)) = upto (body s.data.toList)) (c5 : trimF (denB (body s.data.toList)) = denB (body s.data.toList)) : Calls Tryz.prog 57 #[.string s] w (RParse s.data.toList w) := by
 have HQ0 := hid hq;have HC1 := hid c1;have HC2 := hid c2;have HC3 := hid c3;have HC4 := hid c4;have HC5 := hid c5;clear hq c1 c2 c3 c4 c5;have HP0 := hid (PX.new w false ⟨#[49]⟩ _ rfl);have hne : s.toList.isEmpty = false := by rw [isE]; exact decide_eq_false (by omega)
 have h0i : (0 : Int) < (s.size : Int) := by omega
 have HH := hid (headD_at s h0)
 go_enter Tryz.func57, Tryz.ntmps57
 go_upto_if 15 with fail
 go_cut [5] (fun s5 wx => ∃ b : ByteArray, s5 = .string b ∧ b.data.toList = body s.data.toList ∧ b.size ≤ 90000 ∧ PX w wx (sgB s.data.toList) ⟨#[]⟩ ⟨#[49]⟩)
 case first =>
  by_cases h45 : s[0] = 45
  · have h45b : ((s[0].toNat : Int) == 45) = true := by rw [h45]; rfl
    have HB : Hid ((s.extract 1 s.size).data.toList = body s.data.toList ∧ sgB s.data.toList = true) := hid (body_neg s h0 h45);have hsz : (s.extract 1 s.size).size ≤ 90000 := by rw [ByteArray.size_extract]; omega
    obtain ⟨c0, c1, c2⟩ := HP0.out.cells;have f0 := HP0.out.fz 0;clear h45 hne HH
    go_wp2
    go_region
    all_goals go_wp2
    all_goals go_meet
    all_goals exact ⟨_, rfl, HB.out.1, hsz, by rw [HB.out.2]; exact (PX.new w true ⟨#[49]⟩ _ rfl).drew⟩
  · have h45b : ((s[0].toNat : Int) == 45) = false := by
      simp only [beq_eq_false_iff_ne, ne_eq];intro e;exact h45 (UInt8.toNat_inj.1 (by have : (45 : UInt8).toNat = 45 := rfl; omega))
    have HB : Hid (s.data.toList = body s.data.toList ∧ sgB s.data.toList = false) := hid (body_pos s h0 h45);clear h45 hne HH
    go_wp2
    go_meet
    exact ⟨s, rfl, HB.out.1, hs, by rw [HB.out.2]; exact HP0.out⟩
 case rest =>
  obtain ⟨b, rfl, hb, hbs, hpx⟩ := hcut;have HP := hid hpx;have HB := hid hb;have hbl : b.data.toList.length = b.size := size_data b;have HBL := hid hbl;clear hpx hb hbl HP0 HH h0 h0i hne
  go_upto_block 0 with fail
  go_cut [5] (fun s5 wx => ∃ n d : ByteArray, s5 = .string n ∧ n.data.toList = upto (body s.data.toList) ∧ d.data.toList = denB (body s.data.toList) ∧ n.size ≤ 90000 ∧ d.size ≤ 90000 ∧ PX w wx (sgB s.data.toList) ⟨#[]⟩ d)
  case first =>
   go_wp2_with fail
   go_loopg [5, 6] b.size (fun g s5 i wr => ∃ k : Nat, k ≤ b.size ∧ g = b.size - k ∧ s5 = .string b ∧ i = .int .i64 k ∧ NoSl b.data.toList k ∧ PX w wr (sgB s.data.toList) ⟨#[]⟩ ⟨#[49]⟩)
   case atStart => exact ⟨0, Nat.zero_le _, by omega, rfl, rfl, NoSl.zero _, HP.out⟩
   case round =>
    clear HP;obtain ⟨k, hk, rfl, rfl, rfl, hno, hpx⟩ := hrel;have HN := hid hno;have HP := hid hpx;clear hno hpx
    by_cases hlt : k < b.size
    · by_cases h47 : b[k] = 47
      · have h47b : ((b[k].toNat : Int) == 47) = true := by rw [h47]; rfl
        have HS := hid (HN.out.at_ hlt h47);have hz1 : (b.extract 0 k).size ≤ 90000 := by rw [ByteArray.size_extract]; omega
        have hz2 : (b.extract (k + 1) b.size).size ≤ 90000 := by rw [ByteArray.size_extract]; omega
        obtain ⟨c0, c1, c2⟩ := HP.out.cells;have f2 := HP.out.fz 2;clear h47
        go_wp2
        go_region
        all_goals go_wp2
        all_goals go_meet
        all_goals exact ⟨_, _, rfl, by rw [← HB.out, HS.out.1], by rw [← HB.out, HS.out.2], hz1, hz2, (HP.out.set 2 (.string (b.extract (k + 1) b.size)) rfl).drew⟩
      · have h47b : ((b[k].toNat : Int) == 47) = false := by
          simp only [beq_eq_false_iff_ne, ne_eq];intro e;exact h47 (UInt8.toNat_inj.1 (by have : (47 : UInt8).toNat = 47 := rfl; omega))
        have HS := hid (HN.out.step hlt h47);clear h47
        go_wp2
        go_roundg (b.size - (k + 1))
        case rel => exact ⟨k + 1, by omega, rfl, rfl, by go_num, HS.out, HP.out⟩
        case measure => omega
    · obtain rfl : k = b.size := by omega
      have HS := hid HN.out.all
      go_wp2
      go_meet
      exact ⟨b, ⟨#[49]⟩, rfl, by rw [← HB.out, HS.out.1], by rw [← HB.out, HS.out.2], hbs, by decide, HP.out⟩
  case rest =>
   obtain ⟨n, d, rfl, hn, hd, hns, hds, hpx⟩ := hcut;have HN := hid hn;have HD := hid hd;have f1 := hpx.fz 1;have hx1 := hpx.cells.2.1;have HPX := hid (hpx.set 1 (.string n) rfl);clear hn hd hpx HP HBL;have HB0 := HB;clear HB
   go_wp2_with fail
   clear f1 hx1;generalize wc.setCell ⟨w.heap.size + 1, 1, none⟩ (.string n) = w0 at *;obtain ⟨x, hx⟩ : ∃ x, dv (upto (body s.data.toList)) = x := ⟨_, rfl⟩
   obtain ⟨z, hz⟩ : ∃ z, dv (denB (body s.data.toList)) = z := ⟨_, rfl⟩
   have HNN : Hid (n.data.toList = decN x) := hid (by rw [HN.out, ← hx]; exact dig_trim HC1.out HC4.out);have HDD : Hid (d.data.toList = decN z) := hid (by rw [HD.out, ← hz]; exact dig_trim HC2.out HC5.out);clear hx hz;have hz0 : z ≠ 0 := fun e => HC3.out (by rw [← HD.out, HDD.out, e, decN_zero])
   obtain ⟨e1, e2⟩ := canon_trim HNN.out;obtain ⟨e3, e4⟩ := canon_trim HDD.out;have hdn := fun W => refDigits_same n W (by omega)
   have hdd := fun W => refDigits_same d W (by omega)
   have htn := fun W => refTrim_same n W (by omega)
   have htd := fun W => refTrim_same d W (by omega)
   rw [e1] at hdn;rw [e3] at hdd;rw [e2, ← ba_eq n _ rfl] at htn;rw [e4, ← ba_eq d _ rfl] at htd;have hrd := fun W => refReduce_any (sgB s.data.toList) n d _ _ W HNN.out HDD.out (by omega) (by omega) (by omega)
   obtain ⟨l1, l2⟩ := redQ_le (sgB s.data.toList) x z (by omega);obtain ⟨q, hqq⟩ : ∃ q, redQ (sgB s.data.toList) x z = q := ⟨_, rfl⟩
   rw [hqq] at hrd l1 l2;clear hqq;have htx := fun W => refText_any q W (dec_len_dvd (by rw [← HNN.out, size_data]; omega) l1) (dec_len_dvd (by rw [← HDD.out, size_data]; omega) l2)
   clear l1 l2;obtain ⟨tx, hte⟩ : ∃ tx : ByteArray, (⟨(textQ q).toArray⟩ : ByteArray) = tx := ⟨_, rfl⟩
   rw [hte] at htx
   have htb : (tx.toList == s.toList) = false := by
    rw [beq_eq_false_iff_ne, ByteArray.toList_eq, ByteArray.toList_eq, ← hte]; exact parse_none HQ0.out q
   clear hte
   have h48 : (d.toList == [48]) = false := by
    rw [ByteArray.toList_eq, HDD.out, beq_eq_false_iff_ne, ne_eq, decN_eq_zero]; exact hz0
   have K0 : w0.cell? ⟨w.heap.size + 1, 0, none⟩ = some (.bool (sgB s.data.toList)) ∧ w0.cell? ⟨w.heap.size + 1, 1, none⟩ = some (.string n) ∧ w0.cell? ⟨w.heap.size + 1, 2, none⟩ = some (.string d) := HPX.out.cells;clear e1 e2 e3 e4;unfold ratV at hrd htx
   skip
   go_region_held3 (fun w' => w'.cell? ⟨w.heap.size + 1, 0, none⟩ = some (.bool (sgB s.data.toList)) ∧ w'.cell? ⟨w.heap.size + 1, 1, none⟩ = some (.string n) ∧ w'.cell? ⟨w.heap.size + 1, 2, none⟩ = some (.string d))
    (first | exact K0 | exact K1 | exact K2 | go_keep)
    (first
      | (go_at_call 103
         first
          | (with_reducible refine (hdn _).mono ?_; rintro e w' ⟨rfl, rfl⟩)
          | (with_reducible refine (hdd _).mono ?_; rintro e w' ⟨rfl, rfl⟩))
      | (go_at_call 104
         first
          | (with_reducible refine (htn _).mono ?_; rintro e w' ⟨rfl, rfl⟩)
          | (with_reducible refine (htd _).mono ?_; rintro e w' ⟨rfl, rfl⟩))
      | (go_at_call 58
         refine (hrd _).mono ?_;rintro e w1 ⟨rfl, hb1⟩;have HPX1 := hid ((HPX.out.drewN _).far hb1)
         have K1 := HPX1.out.cells)
      | (go_at_call 60
         refine (htx _).mono ?_;rintro e w2 ⟨rfl, hb2⟩;have HPX2 := hid (HPX1.out.far hb2)
         have K2 := HPX2.out.cells))
   clear K0 K1 K2 hdn hdd htn htd hrd htx;obtain ⟨⟨r0, r1, r2⟩, fr⟩ := HPX2.out.rcells
   go_wp2
   exact end_r3b Tryz.results57 rfl rfl rfl HPX2.out (fun w3 h => ⟨by rw [HQ0.out]; rfl, h⟩)
theorem refParse_empty (s : ByteArray) (w : World) (h0 : s.size = 0) : Calls Tryz.prog 57 #[.string s] w (RParse s.data.toList w) := by
 obtain rfl : s = ⟨#[]⟩ := ByteArray.size_eq_zero_iff.1 h0;have HP0 := hid (PX.new w false ⟨#[49]⟩ _ rfl);have HQ : Hid (ratF (⟨#[]⟩ : ByteArray).data.toList = none) := hid ratF_nil;have hdn := fun W => refDigits_same ⟨#[]⟩ W (by decide)
 have e1 : digF (⟨#[]⟩ : ByteArray).data.toList = false := rfl;rw [e1] at hdn;clear h0 e1
 go_enter Tryz.func57, Tryz.ntmps57
 go_wp2
 go_loopg [5, 6] 0 (fun g s5 i wr => s5 = .string ⟨#[]⟩ ∧ i = .int .i64 0 ∧ PX w wr false ⟨#[]⟩ ⟨#[49]⟩)
 case atStart => exact ⟨rfl, rfl, HP0.out⟩
 case round =>
  obtain ⟨rfl, rfl, hrel⟩ := hrel;have HP := hid hrel;obtain ⟨c0, c1, c2⟩ := hrel.cells;obtain ⟨⟨r0, r1, r2⟩, fr⟩ := hrel.rcells;have f1 := hrel.fz 1;clear hrel HP0
  go_wp2_with fail
  have HP1 := hid (HP.out.set 1 (.string ⟨#[]⟩) rfl);clear c0 c1 c2 r0 r1 r2 fr f1 HP;generalize wr.setCell ⟨w.heap.size + 1, 1, none⟩ (.string ⟨#[]⟩) = w0 at *;obtain ⟨k0, k1, k2⟩ := HP1.out.cells;obtain ⟨⟨r0, r1, r2⟩, fr⟩ := HP1.out.rcells
  go_quiet ((go_at_call 103; exact Calls.quiet_of_same (hdn _)))
  go_wp2
  exact end_r3b Tryz.results57 rfl rfl rfl (HP1.out.drewN _) (fun w3 h => ⟨by rw [HQ.out]; rfl, h⟩)
/-- parse at every text -/
theorem refParse_any (s : ByteArray) (w : World) (hs : s.size ≤ 90000) : Calls Tryz.prog 57 #[.string s] w (RParse s.data.toList w) := by
 rcases Nat.eq_zero_or_pos s.size with h0 | h0
 · exact refParse_empty s w h0
 · cases hq : ratF s.data.toList with
   | some q => exact refParse_yes s w hs h0 hq
   | none =>
     by_cases c1 : digF (upto (body s.data.toList)) = true
     · by_cases c2 : digF (denB (body s.data.toList)) = true
       · by_cases c3 : denB (body s.data.toList) = [48]
         · exact refParse_n3 s w hs h0 hq c1 c2 c3
         · by_cases c4 : trimF (upto (body s.data.toList)) = upto (body s.data.toList)
           · by_cases c5 : trimF (denB (body s.data.toList)) = denB (body s.data.toList)
             · exact refParse_n6 s w hs h0 hq c1 c2 c3 c4 c5
             · exact refParse_n5 s w hs h0 hq c1 c2 c3 c4 c5
           · exact refParse_n4 s w hs h0 hq c1 c2 c3 c4
       · exact refParse_n2 s w hs h0 hq c1 (by simpa using c2)
     · exact refParse_n1 s w hs h0 hq (by simpa using c1)
end
end Go.Proofs.YteoklapcifonaaaGreatDoor
namespace Go.Proofs.YteoklapcifonaaaGreatDoor
open Go.RowKit Nmx
open Rf
/-- a number's parts as the reference keeps them -/
def PS (q : Rat) (neg : Bool) (nb db : ByteArray) : Prop := neg = decide (q.num < 0) ∧ nb.data.toList = decN q.num.natAbs ∧ db.data.toList = decN q.den
theorem PS.val {q : Rat} {neg : Bool} {nb db : ByteArray} (h : PS q neg nb db) : ratV q = .agg #[.bool neg, .string nb, .string db] := by
 obtain ⟨h1, h2, h3⟩ := h;unfold ratV;rw [h1, ba_eq nb _ h2, ba_eq db _ h3]
theorem PS.of (q : Rat) : PS q (decide (q.num < 0)) ⟨(decN q.num.natAbs).toArray⟩ ⟨(decN q.den).toArray⟩ := ⟨rfl, rfl, rfl⟩
theorem PS.zero {q : Rat} {neg : Bool} {nb db : ByteArray} (h : PS q neg nb db) : (nb.toList == [48]) = decide (q.num = 0) := by
 rw [ByteArray.toList_eq, h.2.1, Bool.eq_iff_iff, beq_iff_eq, decN_eq_zero, decide_eq_true_eq]; omega
theorem PS.one {q : Rat} {neg : Bool} {nb db : ByteArray} (h : PS q neg nb db) : (db.toList == [49]) = decide (q.den = 1) := by
 rw [ByteArray.toList_eq, h.2.2, Bool.eq_iff_iff, beq_iff_eq, decN_eq_one, decide_eq_true_eq]
theorem parseSome (s : ByteArray) {q : Rat} (hs : s.size ≤ 90000) (hq : ratF s.data.toList = some q) : ∃ neg nb db, PS q neg nb db ∧ nb.size ≤ s.size ∧ db.size ≤ s.size ∧ ∀ W, Calls Tryz.prog 57 #[.string s] W fun e w' => e = .returned (.tuple #[.agg #[.bool neg, .string nb, .string db], .bool true]) ∧ Below W.heap.size W w' := by
 have hl := congrArg List.length (ratF_some hq);rw [size_data] at hl;have h1 := decI_ge q.num;have hp := decN_len_pos q.num.natAbs;refine ⟨_, _, _, PS.of q, ?_, ?_, fun W => ?_⟩
 · rw [sz_txt, ← hl]; unfold textQ; rw [List.length_append]; omega
 · rw [sz_txt, ← hl]; unfold textQ; rw [List.length_append]
   by_cases h : q.den = 1
   · rw [h, decN_one]
     simp; omega
   · rw [if_neg h, List.length_cons]; omega
 · refine (refParse_any s W hs).mono fun e w' h => ?_
   unfold RParse at h;rw [hq] at h;exact h
theorem parseNone (s : ByteArray) (hs : s.size ≤ 90000) (hq : ratF s.data.toList = none) (W : World) : Calls Tryz.prog 57 #[.string s] W fun e w' => e = .returned (.tuple #[.agg #[.bool false, .string ⟨#[]⟩, .string ⟨#[]⟩], .bool false]) ∧ Below W.heap.size W w' := by
 refine (refParse_any s W hs).mono fun e w' h => ?_
 unfold RParse at h;rw [hq] at h;exact h
section
set_option maxRecDepth 100000
set_option maxHeartbeats 4000000
theorem refValid_any (s : ByteArray) (w : World) (hs : s.size ≤ 90000) : Calls Tryz.prog 72 #[.string s] w fun e w' => e = .returned (.bool (ratF s.data.toList).isSome) ∧ Below w.heap.size w w' := by
 cases hq : ratF s.data.toList with
 | none =>
   have hp := parseNone s hs hq w;clear hq
   go_enter Tryz.func72, Tryz.ntmps72
   go_wp2_with fail
   refine hp.mono ?_;rintro e w1 ⟨rfl, hb1⟩;have HB := hid hb1;clear hb1 hp
   go_wp2
   go_ret
   exact ⟨rfl, HB.out.alloc HB.out.size _⟩
 | some q =>
   obtain ⟨neg, nb, db, -, -, -, hp⟩ := parseSome s hs hq;have hp := hp w;clear hq
   go_enter Tryz.func72, Tryz.ntmps72
   go_wp2_with fail
   refine hp.mono ?_;rintro e w1 ⟨rfl, hb1⟩;have HB := hid hb1;clear hb1 hp
   go_wp2
   go_ret
   exact ⟨rfl, HB.out.alloc HB.out.size _⟩
end
end Go.Proofs.YteoklapcifonaaaGreatDoor
namespace Go.Proofs.YteoklapcifonaaaGreatDoor
open Go.RowKit Nmx
open Rf
end Go.Proofs.YteoklapcifonaaaGreatDoor

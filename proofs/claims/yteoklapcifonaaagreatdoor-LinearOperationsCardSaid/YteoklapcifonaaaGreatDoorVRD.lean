/- The reference's parse at what is no number; at every text. -/
import Derived.Test.YteoklapcifonaaaGreatDoorVRC
open Go.Lib (hid)
namespace Go.Proofs.YteoklapcifonaaaGreatDoor
open Go.RowKit Nmx
open Rf
section
set_option maxRecDepth 100000
set_option maxHeartbeats 4000000
theorem refParse_n1 (s : ByteArray) (w : World) (hs : s.size ≤ 90000) (h0 : 0 < s.size) (hq : ratF s.data.toList = none) (c1 : digF (upto (body s.data.toList)) = false) : Calls Tryz.prog 57 #[.string s] w (RParse s.data.toList w) := by
 have HQ0 := hid hq;clear hq;have HC1 := hid c1;clear c1;have HP0 := hid (PX.new w false ⟨#[49]⟩ _ rfl);have hne : s.toList.isEmpty = false := by rw [isE]; exact decide_eq_false (by omega)
 have h0i : (0 : Int) < (s.size : Int) := by omega
 have HH := hid (headD_at s h0)
 go_enter Tryz.func57, Tryz.ntmps57
 go_upto_if 15 with fail
 go_cut [5] (fun s5 wx => ∃ b : ByteArray, s5 = .string b ∧ b.data.toList = body s.data.toList ∧ b.size ≤ 90000 ∧ PX w wx (sgB s.data.toList) ⟨#[]⟩ ⟨#[49]⟩)
 case first =>
  by_cases h45 : s[0] = 45
  · have h45b : ((s[0].toNat : Int) == 45) = true := by rw [h45]; rfl
    have HB : Hid ((s.extract 1 s.size).data.toList = body s.data.toList ∧ sgB s.data.toList = true) := hid (body_neg s h0 h45);have hsz : (s.extract 1 s.size).size ≤ 90000 := by rw [ByteArray.size_extract]; omega
    obtain ⟨c0, c1, c2⟩ := HP0.out.cells;have f0 := HP0.out.fz 0;clear h45 hne HH
    go_wp2
    go_region
    all_goals go_wp2
    all_goals go_meet
    all_goals exact ⟨_, rfl, HB.out.1, hsz, by rw [HB.out.2]; exact (PX.new w true ⟨#[49]⟩ _ rfl).drew⟩
  · have h45b : ((s[0].toNat : Int) == 45) = false := by
      simp only [beq_eq_false_iff_ne, ne_eq];intro e;exact h45 (UInt8.toNat_inj.1 (by have : (45 : UInt8).toNat = 45 := rfl; omega))
    have HB : Hid (s.data.toList = body s.data.toList ∧ sgB s.data.toList = false) := hid (body_pos s h0 h45);clear h45 hne HH
    go_wp2
    go_meet
    exact ⟨s, rfl, HB.out.1, hs, by rw [HB.out.2]; exact HP0.out⟩
 case rest =>
  obtain ⟨b, rfl, hb, hbs, hpx⟩ := hcut;have HP := hid hpx;have HB := hid hb;have hbl : b.data.toList.length = b.size := size_data b;have HBL := hid hbl;clear hpx hb hbl HP0 HH h0 h0i hne
  go_upto_block 0 with fail
  go_cut [5] (fun s5 wx => ∃ n d : ByteArray, s5 = .string n ∧ n.data.toList = upto (body s.data.toList) ∧ d.data.toList = denB (body s.data.toList) ∧ n.size ≤ 90000 ∧ d.size ≤ 90000 ∧ PX w wx (sgB s.data.toList) ⟨#[]⟩ d)
  case first =>
   go_wp2_with fail
   go_loopg [5, 6] b.size (fun g s5 i wr => ∃ k : Nat, k ≤ b.size ∧ g = b.size - k ∧ s5 = .string b ∧ i = .int .i64 k ∧ NoSl b.data.toList k ∧ PX w wr (sgB s.data.toList) ⟨#[]⟩ ⟨#[49]⟩)
   case atStart => exact ⟨0, Nat.zero_le _, by omega, rfl, rfl, NoSl.zero _, HP.out⟩
   case round =>
    clear HP;obtain ⟨k, hk, rfl, rfl, rfl, hno, hpx⟩ := hrel;have HN := hid hno;have HP := hid hpx;clear hno hpx
    by_cases hlt : k < b.size
    · by_cases h47 : b[k] = 47
      · have h47b : ((b[k].toNat : Int) == 47) = true := by rw [h47]; rfl
        have HS := hid (HN.out.at_ hlt h47);have hz1 : (b.extract 0 k).size ≤ 90000 := by rw [ByteArray.size_extract]; omega
        have hz2 : (b.extract (k + 1) b.size).size ≤ 90000 := by rw [ByteArray.size_extract]; omega
        obtain ⟨c0, c1, c2⟩ := HP.out.cells;have f2 := HP.out.fz 2;clear h47
        go_wp2
        go_region
        all_goals go_wp2
        all_goals go_meet
        all_goals exact ⟨_, _, rfl, by rw [← HB.out, HS.out.1], by rw [← HB.out, HS.out.2], hz1, hz2, (HP.out.set 2 (.string (b.extract (k + 1) b.size)) rfl).drew⟩
      · have h47b : ((b[k].toNat : Int) == 47) = false := by
          simp only [beq_eq_false_iff_ne, ne_eq];intro e;exact h47 (UInt8.toNat_inj.1 (by have : (47 : UInt8).toNat = 47 := rfl; omega))
        have HS := hid (HN.out.step hlt h47);clear h47
        go_wp2
        go_roundg (b.size - (k + 1))
        case rel => exact ⟨k + 1, by omega, rfl, rfl, by go_num, HS.out, HP.out⟩
        case measure => omega
    · obtain rfl : k = b.size := by omega
      have HS := hid HN.out.all
      go_wp2
      go_meet
      exact ⟨b, ⟨#[49]⟩, rfl, by rw [← HB.out, HS.out.1], by rw [← HB.out, HS.out.2], hbs, by decide, HP.out⟩
  case rest =>
   obtain ⟨n, d, rfl, hn, hd, hns, hds, hpx⟩ := hcut;have HN := hid hn;have HD := hid hd;have f1 := hpx.fz 1;have hx1 := hpx.cells.2.1;have HPX := hid (hpx.set 1 (.string n) rfl);clear hn hd hpx HP HBL;have HB0 := HB;clear HB
   go_wp2_with fail
   clear f1 hx1;generalize wc.setCell ⟨w.heap.size + 1, 1, none⟩ (.string n) = w0 at *;have hdn := fun W => refDigits_same n W (by omega)
   have hdd := fun W => refDigits_same d W (by omega)
   have htn := fun W => refTrim_same n W (by omega)
   have htd := fun W => refTrim_same d W (by omega)
   rw [HN.out] at hdn htn;rw [HD.out] at hdd htd;obtain ⟨k0, k1, k2⟩ := HPX.out.cells;rw [HC1.out] at hdn
   go_quiet ((first
    | (go_at_call 103; first
        | (with_reducible exact Calls.quiet_of_same (hdn _))
        | (with_reducible exact Calls.quiet_of_same (hdd _)))
    | (go_at_call 104; first
        | (with_reducible exact Calls.quiet_of_same (htn _))
        | (with_reducible exact Calls.quiet_of_same (htd _)))))
   obtain ⟨⟨r0, r1, r2⟩, fr⟩ := HPX.out.rcells
   go_wp2
   exact end_r3b Tryz.results57 rfl rfl rfl (HPX.out.drewN _) (fun w3 h => ⟨by rw [HQ0.out]; rfl, h⟩)
theorem refParse_n2 (s : ByteArray) (w : World) (hs : s.size ≤ 90000) (h0 : 0 < s.size) (hq : ratF s.data.toList = none) (c1 : digF (upto (body s.data.toList)) = true) (c2 : digF (denB (body s.data.toList)) = false) : Calls Tryz.prog 57 #[.string s] w (RParse s.data.toList w) := by
 have HQ0 := hid hq;clear hq;have HC1 := hid c1;have HC2 := hid c2;clear c1 c2;have HP0 := hid (PX.new w false ⟨#[49]⟩ _ rfl);have hne : s.toList.isEmpty = false := by rw [isE]; exact decide_eq_false (by omega)
 have h0i : (0 : Int) < (s.size : Int) := by omega
 have HH := hid (headD_at s h0)
 go_enter Tryz.func57, Tryz.ntmps57
 go_upto_if 15 with fail
 go_cut [5] (fun s5 wx => ∃ b : ByteArray, s5 = .string b ∧ b.data.toList = body s.data.toList ∧ b.size ≤ 90000 ∧ PX w wx (sgB s.data.toList) ⟨#[]⟩ ⟨#[49]⟩)
 case first =>
  by_cases h45 : s[0] = 45
  · have h45b : ((s[0].toNat : Int) == 45) = true := by rw [h45]; rfl
    have HB : Hid ((s.extract 1 s.size).data.toList = body s.data.toList ∧ sgB s.data.toList = true) := hid (body_neg s h0 h45);have hsz : (s.extract 1 s.size).size ≤ 90000 := by rw [ByteArray.size_extract]; omega
    obtain ⟨c0, c1, c2⟩ := HP0.out.cells;have f0 := HP0.out.fz 0;clear h45 hne HH
    go_wp2
    go_region
    all_goals go_wp2
    all_goals go_meet
    all_goals exact ⟨_, rfl, HB.out.1, hsz, by rw [HB.out.2]; exact (PX.new w true ⟨#[49]⟩ _ rfl).drew⟩
  · have h45b : ((s[0].toNat : Int) == 45) = false := by
      simp only [beq_eq_false_iff_ne, ne_eq];intro e;exact h45 (UInt8.toNat_inj.1 (by have : (45 : UInt8).toNat = 45 := rfl; omega))
    have HB : Hid (s.data.toList = body s.data.toList ∧ sgB s.data.toList = false) := hid (body_pos s h0 h45);clear h45 hne HH
    go_wp2
    go_meet
    exact ⟨s, rfl, HB.out.1, hs, by rw [HB.out.2]; exact HP0.out⟩
 case rest =>
  obtain ⟨b, rfl, hb, hbs, hpx⟩ := hcut;have HP := hid hpx;have HB := hid hb;have hbl : b.data.toList.length = b.size := size_data b;have HBL := hid hbl;clear hpx hb hbl HP0 HH h0 h0i hne
  go_upto_block 0 with fail
  go_cut [5] (fun s5 wx => ∃ n d : ByteArray, s5 = .string n ∧ n.data.toList = upto (body s.data.toList) ∧ d.data.toList = denB (body s.data.toList) ∧ n.size ≤ 90000 ∧ d.size ≤ 90000 ∧ PX w wx (sgB s.data.toList) ⟨#[]⟩ d)
  case first =>
   go_wp2_with fail
   go_loopg [5, 6] b.size (fun g s5 i wr => ∃ k : Nat, k ≤ b.size ∧ g = b.size - k ∧ s5 = .string b ∧ i = .int .i64 k ∧ NoSl b.data.toList k ∧ PX w wr (sgB s.data.toList) ⟨#[]⟩ ⟨#[49]⟩)
   case atStart => exact ⟨0, Nat.zero_le _, by omega, rfl, rfl, NoSl.zero _, HP.out⟩
   case round =>
    clear HP;obtain ⟨k, hk, rfl, rfl, rfl, hno, hpx⟩ := hrel;have HN := hid hno;have HP := hid hpx;clear hno hpx
    by_cases hlt : k < b.size
    · by_cases h47 : b[k] = 47
      · have h47b : ((b[k].toNat : Int) == 47) = true := by rw [h47]; rfl
        have HS := hid (HN.out.at_ hlt h47);have hz1 : (b.extract 0 k).size ≤ 90000 := by rw [ByteArray.size_extract]; omega
        have hz2 : (b.extract (k + 1) b.size).size ≤ 90000 := by rw [ByteArray.size_extract]; omega
        obtain ⟨c0, c1, c2⟩ := HP.out.cells;have f2 := HP.out.fz 2;clear h47
        go_wp2
        go_region
        all_goals go_wp2
        all_goals go_meet
        all_goals exact ⟨_, _, rfl, by rw [← HB.out, HS.out.1], by rw [← HB.out, HS.out.2], hz1, hz2, (HP.out.set 2 (.string (b.extract (k + 1) b.size)) rfl).drew⟩
      · have h47b : ((b[k].toNat : Int) == 47) = false := by
          simp only [beq_eq_false_iff_ne, ne_eq];intro e;exact h47 (UInt8.toNat_inj.1 (by have : (47 : UInt8).toNat = 47 := rfl; omega))
        have HS := hid (HN.out.step hlt h47);clear h47
        go_wp2
        go_roundg (b.size - (k + 1))
        case rel => exact ⟨k + 1, by omega, rfl, rfl, by go_num, HS.out, HP.out⟩
        case measure => omega
    · obtain rfl : k = b.size := by omega
      have HS := hid HN.out.all
      go_wp2
      go_meet
      exact ⟨b, ⟨#[49]⟩, rfl, by rw [← HB.out, HS.out.1], by rw [← HB.out, HS.out.2], hbs, by decide, HP.out⟩
  case rest =>
   obtain ⟨n, d, rfl, hn, hd, hns, hds, hpx⟩ := hcut;have HN := hid hn;have HD := hid hd;have f1 := hpx.fz 1;have hx1 := hpx.cells.2.1;have HPX := hid (hpx.set 1 (.string n) rfl);clear hn hd hpx HP HBL;have HB0 := HB;clear HB
   go_wp2_with fail
   clear f1 hx1;generalize wc.setCell ⟨w.heap.size + 1, 1, none⟩ (.string n) = w0 at *;have hdn := fun W => refDigits_same n W (by omega)
   have hdd := fun W => refDigits_same d W (by omega)
   have htn := fun W => refTrim_same n W (by omega)
   have htd := fun W => refTrim_same d W (by omega)
   rw [HN.out] at hdn htn;rw [HD.out] at hdd htd;obtain ⟨k0, k1, k2⟩ := HPX.out.cells;rw [HC1.out] at hdn;rw [HC2.out] at hdd
   go_quiet ((first
    | (go_at_call 103; first
        | (with_reducible exact Calls.quiet_of_same (hdn _))
        | (with_reducible exact Calls.quiet_of_same (hdd _)))
    | (go_at_call 104; first
        | (with_reducible exact Calls.quiet_of_same (htn _))
        | (with_reducible exact Calls.quiet_of_same (htd _)))))
   obtain ⟨⟨r0, r1, r2⟩, fr⟩ := HPX.out.rcells
   go_wp2
   exact end_r3b Tryz.results57 rfl rfl rfl (HPX.out.drewN _) (fun w3 h => ⟨by rw [HQ0.out]; rfl, h⟩)
theorem refParse_n3 (s : ByteArray) (w : World) (hs : s.size ≤ 90000) (h0 : 0 < s.size) (hq : ratF s.data.toList = none) (c1 : digF (upto (body s.data.toList)) = true) (c2 : digF (denB (body s.data.toList)) = true) (c3 : denB (body s.data.toList) = [48]) : Calls Tryz.prog 57 #[.string s] w (RParse s.data.toList w) := by
 have HQ0 := hid hq;clear hq;have HC1 := hid c1;have HC2 := hid c2;have HC3 := hid c3;clear c1 c2 c3;have HP0 := hid (PX.new w false ⟨#[49]⟩ _ rfl);have hne : s.toList.isEmpty = false := by rw [isE]; exact decide_eq_false (by omega)
 have h0i : (0 : Int) < (s.size : Int) := by omega
 have HH := hid (headD_at s h0)
 go_enter Tryz.func57, Tryz.ntmps57
 go_upto_if 15 with fail
 go_cut [5] (fun s5 wx => ∃ b : ByteArray, s5 = .string b ∧ b.data.toList = body s.data.toList ∧ b.size ≤ 90000 ∧ PX w wx (sgB s.data.toList) ⟨#[]⟩ ⟨#[49]⟩)
 case first =>
  by_cases h45 : s[0] = 45
  · have h45b : ((s[0].toNat : Int) == 45) = true := by rw [h45]; rfl
    have HB : Hid ((s.extract 1 s.size).data.toList = body s.data.toList ∧ sgB s.data.toList = true) := hid (body_neg s h0 h45);have hsz : (s.extract 1 s.size).size ≤ 90000 := by rw [ByteArray.size_extract]; omega
    obtain ⟨c0, c1, c2⟩ := HP0.out.cells;have f0 := HP0.out.fz 0;clear h45 hne HH
    go_wp2
    go_region
    all_goals go_wp2
    all_goals go_meet
    all_goals exact ⟨_, rfl, HB.out.1, hsz, by rw [HB.out.2]; exact (PX.new w true ⟨#[49]⟩ _ rfl).drew⟩
  · have h45b : ((s[0].toNat : Int) == 45) = false := by
      simp only [beq_eq_false_iff_ne, ne_eq];intro e;exact h45 (UInt8.toNat_inj.1 (by have : (45 : UInt8).toNat = 45 := rfl; omega))
    have HB : Hid (s.data.toList = body s.data.toList ∧ sgB s.data.toList = false) := hid (body_pos s h0 h45);clear h45 hne HH
    go_wp2
    go_meet
    exact ⟨s, rfl, HB.out.1, hs, by rw [HB.out.2]; exact HP0.out⟩
 case rest =>
  obtain ⟨b, rfl, hb, hbs, hpx⟩ := hcut;have HP := hid hpx;have HB := hid hb;have hbl : b.data.toList.length = b.size := size_data b;have HBL := hid hbl;clear hpx hb hbl HP0 HH h0 h0i hne
  go_upto_block 0 with fail
  go_cut [5] (fun s5 wx => ∃ n d : ByteArray, s5 = .string n ∧ n.data.toList = upto (body s.data.toList) ∧ d.data.toList = denB (body s.data.toList) ∧ n.size ≤ 90000 ∧ d.size ≤ 90000 ∧ PX w wx (sgB s.data.toList) ⟨#[]⟩ d)
  case first =>
   go_wp2_with fail
   go_loopg [5, 6] b.size (fun g s5 i wr => ∃ k : Nat, k ≤ b.size ∧ g = b.size - k ∧ s5 = .string b ∧ i = .int .i64 k ∧ NoSl b.data.toList k ∧ PX w wr (sgB s.data.toList) ⟨#[]⟩ ⟨#[49]⟩)
   case atStart => exact ⟨0, Nat.zero_le _, by omega, rfl, rfl, NoSl.zero _, HP.out⟩
   case round =>
    clear HP;obtain ⟨k, hk, rfl, rfl, rfl, hno, hpx⟩ := hrel;have HN := hid hno;have HP := hid hpx;clear hno hpx
    by_cases hlt : k < b.size
    · by_cases h47 : b[k] = 47
      · have h47b : ((b[k].toNat : Int) == 47) = true := by rw [h47]; rfl
        have HS := hid (HN.out.at_ hlt h47);have hz1 : (b.extract 0 k).size ≤ 90000 := by rw [ByteArray.size_extract]; omega
        have hz2 : (b.extract (k + 1) b.size).size ≤ 90000 := by rw [ByteArray.size_extract]; omega
        obtain ⟨c0, c1, c2⟩ := HP.out.cells;have f2 := HP.out.fz 2;clear h47
        go_wp2
        go_region
        all_goals go_wp2
        all_goals go_meet
        all_goals exact ⟨_, _, rfl, by rw [← HB.out, HS.out.1], by rw [← HB.out, HS.out.2], hz1, hz2, (HP.out.set 2 (.string (b.extract (k + 1) b.size)) rfl).drew⟩
      · have h47b : ((b[k].toNat : Int) == 47) = false := by
          simp only [beq_eq_false_iff_ne, ne_eq];intro e;exact h47 (UInt8.toNat_inj.1 (by have : (47 : UInt8).toNat = 47 := rfl; omega))
        have HS := hid (HN.out.step hlt h47);clear h47
        go_wp2
        go_roundg (b.size - (k + 1))
        case rel => exact ⟨k + 1, by omega, rfl, rfl, by go_num, HS.out, HP.out⟩
        case measure => omega
    · obtain rfl : k = b.size := by omega
      have HS := hid HN.out.all
      go_wp2
      go_meet
      exact ⟨b, ⟨#[49]⟩, rfl, by rw [← HB.out, HS.out.1], by rw [← HB.out, HS.out.2], hbs, by decide, HP.out⟩
  case rest =>
   obtain ⟨n, d, rfl, hn, hd, hns, hds, hpx⟩ := hcut;have HN := hid hn;have HD := hid hd;have f1 := hpx.fz 1;have hx1 := hpx.cells.2.1;have HPX := hid (hpx.set 1 (.string n) rfl);clear hn hd hpx HP HBL;have HB0 := HB;clear HB
   go_wp2_with fail
   clear f1 hx1;generalize wc.setCell ⟨w.heap.size + 1, 1, none⟩ (.string n) = w0 at *;have hdn := fun W => refDigits_same n W (by omega)
   have hdd := fun W => refDigits_same d W (by omega)
   have htn := fun W => refTrim_same n W (by omega)
   have htd := fun W => refTrim_same d W (by omega)
   rw [HN.out] at hdn htn;rw [HD.out] at hdd htd;obtain ⟨k0, k1, k2⟩ := HPX.out.cells;rw [HC1.out] at hdn;rw [HC2.out] at hdd;have h48 : (d.toList == [48]) = true := by rw [ByteArray.toList_eq, HD.out, HC3.out]; rfl
   go_quiet ((first
    | (go_at_call 103; first
        | (with_reducible exact Calls.quiet_of_same (hdn _))
        | (with_reducible exact Calls.quiet_of_same (hdd _)))
    | (go_at_call 104; first
        | (with_reducible exact Calls.quiet_of_same (htn _))
        | (with_reducible exact Calls.quiet_of_same (htd _)))))
   obtain ⟨⟨r0, r1, r2⟩, fr⟩ := HPX.out.rcells
   go_wp2
   exact end_r3b Tryz.results57 rfl rfl rfl (HPX.out.drewN _) (fun w3 h => ⟨by rw [HQ0.out]; rfl, h⟩)
theorem refParse_n4 (s : ByteArray) (w : World) (hs : s.size ≤ 90000) (h0 : 0 < s.size) (hq : ratF s.data.toList = none) (c1 : digF (upto (body s.data.toList)) = true) (c2 : digF (denB (body s.data.toList)) = true) (c3 : denB (body s.data.toList) ≠ [48]) (c4 : trimF (upto (body s.data.toList)) ≠ upto (body s.data.toList)) : Calls Tryz.prog 57 #[.string s] w (RParse s.data.toList w) := by
 have HQ0 := hid hq;clear hq;have HC1 := hid c1;have HC2 := hid c2;have HC3 := hid c3;have HC4 := hid c4;clear c1 c2 c3 c4;have HP0 := hid (PX.new w false ⟨#[49]⟩ _ rfl);have hne : s.toList.isEmpty = false := by rw [isE]; exact decide_eq_false (by omega)
 have h0i : (0 : Int) < (s.size : Int) := by omega
 have HH := hid (headD_at s h0)
 go_enter Tryz.func57, Tryz.ntmps57
 go_upto_if 15 with fail
 go_cut [5] (fun s5 wx => ∃ b : ByteArray, s5 = .string b ∧ b.data.toList = body s.data.toList ∧ b.size ≤ 90000 ∧ PX w wx (sgB s.data.toList) ⟨#[]⟩ ⟨#[49]⟩)
 case first =>
  by_cases h45 : s[0] = 45
  · have h45b : ((s[0].toNat : Int) == 45) = true := by rw [h45]; rfl
    have HB : Hid ((s.extract 1 s.size).data.toList = body s.data.toList ∧ sgB s.data.toList = true) := hid (body_neg s h0 h45);have hsz : (s.extract 1 s.size).size ≤ 90000 := by rw [ByteArray.size_extract]; omega
    obtain ⟨c0, c1, c2⟩ := HP0.out.cells;have f0 := HP0.out.fz 0;clear h45 hne HH
    go_wp2
    go_region
    all_goals go_wp2
    all_goals go_meet
    all_goals exact ⟨_, rfl, HB.out.1, hsz, by rw [HB.out.2]; exact (PX.new w true ⟨#[49]⟩ _ rfl).drew⟩
  · have h45b : ((s[0].toNat : Int) == 45) = false := by
      simp only [beq_eq_false_iff_ne, ne_eq];intro e;exact h45 (UInt8.toNat_inj.1 (by have : (45 : UInt8).toNat = 45 := rfl; omega))
    have HB : Hid (s.data.toList = body s.data.toList ∧ sgB s.data.toList = false) := hid (body_pos s h0 h45);clear h45 hne HH
    go_wp2
    go_meet
    exact ⟨s, rfl, HB.out.1, hs, by rw [HB.out.2]; exact HP0.out⟩
 case rest =>
  obtain ⟨b, rfl, hb, hbs, hpx⟩ := hcut;have HP := hid hpx;have HB := hid hb;have hbl : b.data.toList.length = b.size := size_data b;have HBL := hid hbl;clear hpx hb hbl HP0 HH h0 h0i hne
  go_upto_block 0 with fail
  go_cut [5] (fun s5 wx => ∃ n d : ByteArray, s5 = .string n ∧ n.data.toList = upto (body s.data.toList) ∧ d.data.toList = denB (body s.data.toList) ∧ n.size ≤ 90000 ∧ d.size ≤ 90000 ∧ PX w wx (sgB s.data.toList) ⟨#[]⟩ d)
  case first =>
   go_wp2_with fail
   go_loopg [5, 6] b.size (fun g s5 i wr => ∃ k : Nat, k ≤ b.size ∧ g = b.size - k ∧ s5 = .string b ∧ i = .int .i64 k ∧ NoSl b.data.toList k ∧ PX w wr (sgB s.data.toList) ⟨#[]⟩ ⟨#[49]⟩)
   case atStart => exact ⟨0, Nat.zero_le _, by omega, rfl, rfl, NoSl.zero _, HP.out⟩
   case round =>
    clear HP;obtain ⟨k, hk, rfl, rfl, rfl, hno, hpx⟩ := hrel;have HN := hid hno;have HP := hid hpx;clear hno hpx
    by_cases hlt : k < b.size
    · by_cases h47 : b[k] = 47
      · have h47b : ((b[k].toNat : Int) == 47) = true := by rw [h47]; rfl
        have HS := hid (HN.out.at_ hlt h47);have hz1 : (b.extract 0 k).size ≤ 90000 := by rw [ByteArray.size_extract]; omega
        have hz2 : (b.extract (k + 1) b.size).size ≤ 90000 := by rw [ByteArray.size_extract]; omega
        obtain ⟨c0, c1, c2⟩ := HP.out.cells;have f2 := HP.out.fz 2;clear h47
        go_wp2
        go_region
        all_goals go_wp2
        all_goals go_meet
        all_goals exact ⟨_, _, rfl, by rw [← HB.out, HS.out.1], by rw [← HB.out, HS.out.2], hz1, hz2, (HP.out.set 2 (.string (b.extract (k + 1) b.size)) rfl).drew⟩
      · have h47b : ((b[k].toNat : Int) == 47) = false := by
          simp only [beq_eq_false_iff_ne, ne_eq];intro e;exact h47 (UInt8.toNat_inj.1 (by have : (47 : UInt8).toNat = 47 := rfl; omega))
        have HS := hid (HN.out.step hlt h47);clear h47
        go_wp2
        go_roundg (b.size - (k + 1))
        case rel => exact ⟨k + 1, by omega, rfl, rfl, by go_num, HS.out, HP.out⟩
        case measure => omega
    · obtain rfl : k = b.size := by omega
      have HS := hid HN.out.all
      go_wp2
      go_meet
      exact ⟨b, ⟨#[49]⟩, rfl, by rw [← HB.out, HS.out.1], by rw [← HB.out, HS.out.2], hbs, by decide, HP.out⟩
  case rest =>
   obtain ⟨n, d, rfl, hn, hd, hns, hds, hpx⟩ := hcut;have HN := hid hn;have HD := hid hd;have f1 := hpx.fz 1;have hx1 := hpx.cells.2.1;have HPX := hid (hpx.set 1 (.string n) rfl);clear hn hd hpx HP HBL;have HB0 := HB;clear HB
   go_wp2_with fail
   clear f1 hx1;generalize wc.setCell ⟨w.heap.size + 1, 1, none⟩ (.string n) = w0 at *;have hdn := fun W => refDigits_same n W (by omega)
   have hdd := fun W => refDigits_same d W (by omega)
   have htn := fun W => refTrim_same n W (by omega)
   have htd := fun W => refTrim_same d W (by omega)
   rw [HN.out] at hdn htn;rw [HD.out] at hdd htd;obtain ⟨k0, k1, k2⟩ := HPX.out.cells;rw [HC1.out] at hdn;rw [HC2.out] at hdd;have h48 : (d.toList == [48]) = false := by rw [ByteArray.toList_eq, HD.out, beq_eq_false_iff_ne]; exact HC3.out
   obtain ⟨tn, hte⟩ : ∃ tn : ByteArray, (⟨(trimF (upto (body s.data.toList))).toArray⟩ : ByteArray) = tn := ⟨_, rfl⟩
   rw [hte] at htn
   have htb : (tn.toList == n.toList) = false := by
    rw [beq_eq_false_iff_ne, ByteArray.toList_eq, ByteArray.toList_eq, ← hte, HN.out]; exact HC4.out
   clear hte
   go_quiet ((first
    | (go_at_call 103; first
        | (with_reducible exact Calls.quiet_of_same (hdn _))
        | (with_reducible exact Calls.quiet_of_same (hdd _)))
    | (go_at_call 104; first
        | (with_reducible exact Calls.quiet_of_same (htn _))
        | (with_reducible exact Calls.quiet_of_same (htd _)))))
   obtain ⟨⟨r0, r1, r2⟩, fr⟩ := HPX.out.rcells
   go_wp2
   exact end_r3b Tryz.results57 rfl rfl rfl (HPX.out.drewN _) (fun w3 h => ⟨by rw [HQ0.out]; rfl, h⟩)
theorem refParse_n5 (s : ByteArray) (w : World) (hs : s.size ≤ 90000) (h0 : 0 < s.size) (hq : ratF s.data.toList = none) (c1 : digF (upto (body s.data.toList)) = true) (c2 : digF (denB (body s.data.toList)) = true) (c3 : denB (body s.data.toList) ≠ [48]) (c4 : trimF (upto (body s.data.toList)) = upto (body s.data.toList)) (c5 : trimF (denB (body s.data.toList)) ≠ denB (body s.data.toList)) : Calls Tryz.prog 57 #[.string s] w (RParse s.data.toList w) := by
 have HQ0 := hid hq;clear hq;have HC1 := hid c1;have HC2 := hid c2;have HC3 := hid c3;have HC4 := hid c4;have HC5 := hid c5;clear c1 c2 c3 c4 c5;have HP0 := hid (PX.new w false ⟨#[49]⟩ _ rfl);have hne : s.toList.isEmpty = false := by rw [isE]; exact decide_eq_false (by omega)
 have h0i : (0 : Int) < (s.size : Int) := by omega
 have HH := hid (headD_at s h0)
 go_enter Tryz.func57, Tryz.ntmps57
 go_upto_if 15 with fail
 go_cut [5] (fun s5 wx => ∃ b : ByteArray, s5 = .string b ∧ b.data.toList = body s.data.toList ∧ b.size ≤ 90000 ∧ PX w wx (sgB s.data.toList) ⟨#[]⟩ ⟨#[49]⟩)
 case first =>
  by_cases h45 : s[0] = 45
  · have h45b : ((s[0].toNat : Int) == 45) = true := by rw [h45]; rfl
    have HB : Hid ((s.extract 1 s.size).data.toList = body s.data.toList ∧ sgB s.data.toList = true) := hid (body_neg s h0 h45);have hsz : (s.extract 1 s.size).size ≤ 90000 := by rw [ByteArray.size_extract]; omega
    obtain ⟨c0, c1, c2⟩ := HP0.out.cells;have f0 := HP0.out.fz 0;clear h45 hne HH
    go_wp2
    go_region
    all_goals go_wp2
    all_goals go_meet
    all_goals exact ⟨_, rfl, HB.out.1, hsz, by rw [HB.out.2]; exact (PX.new w true ⟨#[49]⟩ _ rfl).drew⟩
  · have h45b : ((s[0].toNat : Int) == 45) = false := by
      simp only [beq_eq_false_iff_ne, ne_eq];intro e;exact h45 (UInt8.toNat_inj.1 (by have : (45 : UInt8).toNat = 45 := rfl; omega))
    have HB : Hid (s.data.toList = body s.data.toList ∧ sgB s.data.toList = false) := hid (body_pos s h0 h45);clear h45 hne HH
    go_wp2
    go_meet
    exact ⟨s, rfl, HB.out.1, hs, by rw [HB.out.2]; exact HP0.out⟩
 case rest =>
  obtain ⟨b, rfl, hb, hbs, hpx⟩ := hcut;have HP := hid hpx;have HB := hid hb;have hbl : b.data.toList.length = b.size := size_data b;have HBL := hid hbl;clear hpx hb hbl HP0 HH h0 h0i hne
  go_upto_block 0 with fail
  go_cut [5] (fun s5 wx => ∃ n d : ByteArray, s5 = .string n ∧ n.data.toList = upto (body s.data.toList) ∧ d.data.toList = denB (body s.data.toList) ∧ n.size ≤ 90000 ∧ d.size ≤ 90000 ∧ PX w wx (sgB s.data.toList) ⟨#[]⟩ d)
  case first =>
   go_wp2_with fail
   go_loopg [5, 6] b.size (fun g s5 i wr => ∃ k : Nat, k ≤ b.size ∧ g = b.size - k ∧ s5 = .string b ∧ i = .int .i64 k ∧ NoSl b.data.toList k ∧ PX w wr (sgB s.data.toList) ⟨#[]⟩ ⟨#[49]⟩)
   case atStart => exact ⟨0, Nat.zero_le _, by omega, rfl, rfl, NoSl.zero _, HP.out⟩
   case round =>
    clear HP;obtain ⟨k, hk, rfl, rfl, rfl, hno, hpx⟩ := hrel;have HN := hid hno;have HP := hid hpx;clear hno hpx
    by_cases hlt : k < b.size
    · by_cases h47 : b[k] = 47
      · have h47b : ((b[k].toNat : Int) == 47) = true := by rw [h47]; rfl
        have HS := hid (HN.out.at_ hlt h47);have hz1 : (b.extract 0 k).size ≤ 90000 := by rw [ByteArray.size_extract]; omega
        have hz2 : (b.extract (k + 1) b.size).size ≤ 90000 := by rw [ByteArray.size_extract]; omega
        obtain ⟨c0, c1, c2⟩ := HP.out.cells;have f2 := HP.out.fz 2;clear h47
        go_wp2
        go_region
        all_goals go_wp2
        all_goals go_meet
        all_goals exact ⟨_, _, rfl, by rw [← HB.out, HS.out.1], by rw [← HB.out, HS.out.2], hz1, hz2, (HP.out.set 2 (.string (b.extract (k + 1) b.size)) rfl).drew⟩
      · have h47b : ((b[k].toNat : Int) == 47) = false := by
          simp only [beq_eq_false_iff_ne, ne_eq];intro e;exact h47 (UInt8.toNat_inj.1 (by have : (47 : UInt8).toNat = 47 := rfl; omega))
        have HS := hid (HN.out.step hlt h47);clear h47
        go_wp2
        go_roundg (b.size - (k + 1))
        case rel => exact ⟨k + 1, by omega, rfl, rfl, by go_num, HS.out, HP.out⟩
        case measure => omega
    · obtain rfl : k = b.size := by omega
      have HS := hid HN.out.all
      go_wp2
      go_meet
      exact ⟨b, ⟨#[49]⟩, rfl, by rw [← HB.out, HS.out.1], by rw [← HB.out, HS.out.2], hbs, by decide, HP.out⟩
  case rest =>
   obtain ⟨n, d, rfl, hn, hd, hns, hds, hpx⟩ := hcut;have HN := hid hn;have HD := hid hd;have f1 := hpx.fz 1;have hx1 := hpx.cells.2.1;have HPX := hid (hpx.set 1 (.string n) rfl);clear hn hd hpx HP HBL;have HB0 := HB;clear HB
   go_wp2_with fail
   clear f1 hx1;generalize wc.setCell ⟨w.heap.size + 1, 1, none⟩ (.string n) = w0 at *;have hdn := fun W => refDigits_same n W (by omega)
   have hdd := fun W => refDigits_same d W (by omega)
   have htn := fun W => refTrim_same n W (by omega)
   have htd := fun W => refTrim_same d W (by omega)
   rw [HN.out] at hdn htn;rw [HD.out] at hdd htd;obtain ⟨k0, k1, k2⟩ := HPX.out.cells;rw [HC1.out] at hdn;rw [HC2.out] at hdd;have h48 : (d.toList == [48]) = false := by rw [ByteArray.toList_eq, HD.out, beq_eq_false_iff_ne]; exact HC3.out
   rw [HC4.out, ← ba_eq n _ HN.out] at htn;obtain ⟨td, hue⟩ : ∃ td : ByteArray, (⟨(trimF (denB (body s.data.toList))).toArray⟩ : ByteArray) = td := ⟨_, rfl⟩
   rw [hue] at htd
   have hub : (td.toList == d.toList) = false := by
    rw [beq_eq_false_iff_ne, ByteArray.toList_eq, ByteArray.toList_eq, ← hue, HD.out]; exact HC5.out
   clear hue
   go_quiet ((first
    | (go_at_call 103; first
        | (with_reducible exact Calls.quiet_of_same (hdn _))
        | (with_reducible exact Calls.quiet_of_same (hdd _)))
    | (go_at_call 104; first
        | (with_reducible exact Calls.quiet_of_same (htn _))
        | (with_reducible exact Calls.quiet_of_same (htd _)))))
   obtain ⟨⟨r0, r1, r2⟩, fr⟩ := HPX.out.rcells
   go_wp2
   exact end_r3b Tryz.results57 rfl rfl rfl (HPX.out.drewN _) (fun w3 h => ⟨by rw [HQ0.out]; rfl, h⟩)
end
end Go.Proofs.YteoklapcifonaaaGreatDoor

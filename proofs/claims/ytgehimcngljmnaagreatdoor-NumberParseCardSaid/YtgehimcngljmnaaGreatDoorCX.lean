/- The reference's ParseDecimal. -/
import Derived.Test.YtgehimcngljmnaaGreatDoorRG
import Derived.Deep.CutBlock
import Derived.Test.YtgehimcngljmnaaGreatDoorNA
namespace Nmx
/-- decimal notation, as the reference reads it behind the sign -/
def decWh (b : List UInt8) : List UInt8 := b.takeWhile (· != 46)
def decPt (b : List UInt8) : List UInt8 := if b.contains 46 then (b.dropWhile (· != 46)).drop 1 else []
def digs (l : List UInt8) : Bool := l.all isD && decide (l ≠ [])
def decF (l : List UInt8) : Option Rat :=
  if ((body l).contains 46 = true ∧ digs (decPt (body l)) = false) ∨ digs (decWh (body l)) = false then none
  else some (redQ (sgB l) (dv (decWh (body l) ++ decPt (body l))) (10 ^ (decPt (body l)).length))
def NoPt (l : List UInt8) (k : Nat) : Prop := ∀ x ∈ l.take k, (x != 46) = true
theorem NoPt.zero (l : List UInt8) : NoPt l 0 := by unfold NoPt; simp
theorem pt_at {a b : List UInt8} (h : ∀ x ∈ a, (x != 46) = true) : decWh (a ++ 46 :: b) = a ∧ decPt (a ++ 46 :: b) = b ∧ (a ++ 46 :: b).contains 46 = true := by
  have h3 : (a ++ 46 :: b).contains 46 = true := by simp
  refine ⟨?_, ?_, h3⟩
  · unfold decWh
    rw [List.takeWhile_append_of_pos h]
    simp
  · unfold decPt
    rw [if_pos h3, List.dropWhile_append_of_pos h]
    simp
theorem pt_no {l : List UInt8} (h : ∀ x ∈ l, (x != 46) = true) : decWh l = l ∧ decPt l = [] ∧ l.contains 46 = false := by
  have h3 : l.contains 46 = false := by
    rw [Bool.eq_false_iff]
    intro hc
    have := h 46 (by simpa using hc)
    simp at this
  refine ⟨?_, by unfold decPt; rw [h3]; rfl, h3⟩
  unfold decWh
  induction l with
  | nil => rfl
  | cons c r ih => rw [List.takeWhile_cons, if_pos (h c List.mem_cons_self), ih (fun x hx => h x (List.mem_cons_of_mem _ hx)) (by rw [Bool.eq_false_iff] at h3 ⊢; exact fun hc => h3 (by simp at hc ⊢; exact .inr hc))]
theorem tens (k : Nat) : decN (10 ^ k) = 49 :: List.replicate k 48 := by
  induction k with
  | zero => exact decN_one
  | succ k ih =>
    have hp : 0 < 10 ^ k := Nat.pow_pos (by omega)
    rw [Nat.pow_succ, decN_big (by omega), show 10 ^ k * 10 / 10 = 10 ^ k by omega, show 10 ^ k * 10 % 10 = 0 by omega, ih, List.replicate_succ']
    rfl
end Nmx
namespace Go.Proofs.YtgehimcngljmnaaGreatDoor
open Go.RowKit Nmx
open Rf

theorem noPt_step {s : ByteArray} {k : Nat} (h : NoPt s.data.toList k) (hk : k < s.size) (hc : s[k] ≠ 46) : NoPt s.data.toList (k + 1) := fun x hx => by
  rw [List.take_add_one, byte_at s k hk] at hx
  simp only [Option.toList, List.mem_append, List.mem_singleton] at hx
  rcases hx with hx | hx
  · exact h x hx
  · subst hx; simpa using hc
theorem noPt_all {s : ByteArray} (h : NoPt s.data.toList s.size) : decWh s.data.toList = s.data.toList ∧ decPt s.data.toList = [] ∧ s.data.toList.contains 46 = false := by
  refine pt_no ?_
  have h2 := h
  unfold NoPt at h2
  rwa [List.take_of_length_le (by rw [size_data]; exact Nat.le_refl _)] at h2
theorem noPt_at {s : ByteArray} {k : Nat} (h : NoPt s.data.toList k) (hk : k < s.size) (hc : s[k] = 46) : decWh s.data.toList = (s.extract 0 k).data.toList ∧ decPt s.data.toList = (s.extract (k + 1) s.size).data.toList ∧ s.data.toList.contains 46 = true := by
  have e : s.data.toList = s.data.toList.take k ++ 46 :: s.data.toList.drop (k + 1) := by
    conv => lhs; rw [← List.take_append_drop k s.data.toList]
    rw [List.drop_eq_getElem_cons (by rw [size_data]; exact hk)]
    congr 2
  obtain ⟨h1, h2, h3⟩ := pt_at (b := s.data.toList.drop (k + 1)) h
  rw [← e] at h1 h2 h3
  rw [ex_data, ex_data]
  exact ⟨by rw [h1]; simp, by rw [h2, List.take_of_length_le (by rw [List.length_drop, size_data]; omega)], h3⟩
def PDec (l : List UInt8) (w : World) (e : Ending) (w' : World) : Prop := e = .returned (.tuple #[.string ⟨(txt (decF l)).toArray⟩, .bool (decF l).isSome]) ∧ Below w.heap.size w w'
theorem pdec_none {l : List UInt8} {w w' : World} (h : decF l = none) (hb : Below w.heap.size w w') : PDec l w (.returned (.tuple #[.string ⟨#[]⟩, .bool false])) w' := ⟨by rw [h]; rfl, hb⟩
theorem dig_ne {l : List UInt8} (h : digF l = true) : l.all isD = true ∧ l ≠ [] := by
  unfold digF at h
  rwa [Bool.and_eq_true, decide_eq_true_eq] at h

section
set_option maxRecDepth 100000
set_option maxHeartbeats 4000000
theorem refDecimal_pos (s : ByteArray) (w : World) (hs : s.size ≤ 40000) (h0 : 0 < s.size) : Calls Tryz.prog 22 #[.string s] w (PDec s.data.toList w) := by
  have hne : s.toList.isEmpty = false := by rw [isE]; exact decide_eq_false (by omega)
  have h0i : (0 : Int) < (s.size : Int) := by omega
  have hsg : ((s[0].toNat : Int) == 45) = sgB s.data.toList := by
    by_cases h45 : s[0] = 45
    · rw [(body_neg s h0 h45).2, h45]; rfl
    · rw [(body_pos s h0 h45).2]
      simp only [beq_eq_false_iff_ne, ne_eq]
      intro e
      exact h45 (UInt8.toNat_inj.1 (by have : (45 : UInt8).toNat = 45 := rfl; omega))
  have HBD : Hid ((sgB s.data.toList = true → (s.extract 1 s.size).data.toList = body s.data.toList) ∧ (sgB s.data.toList = false → s.data.toList = body s.data.toList)) := Lib.hid (by
    by_cases h45 : s[0] = 45
    · obtain ⟨e1, e2⟩ := body_neg s h0 h45
      exact ⟨fun _ => e1, fun h => absurd (e2.symm.trans h) (by simp)⟩
    · obtain ⟨e1, e2⟩ := body_pos s h0 h45
      exact ⟨fun h => absurd (e2.symm.trans h) (by simp), fun _ => e1⟩)
  obtain ⟨ng, hng⟩ : ∃ ng, sgB s.data.toList = ng := ⟨_, rfl⟩
  have HNG := Lib.hid hng
  rw [hng] at hsg HBD
  clear hng
  go_enter Tryz.func22, Tryz.ntmps22
  go_upto_if 17 with fail
  go_cut [0] (fun s5 wx => ∃ b : ByteArray, s5 = .string b ∧ b.data.toList = body s.data.toList ∧ b.size ≤ 40000 ∧ wx = w)
  case first =>
    cases ng
    · go_wp2
      go_meet
      exact ⟨s, rfl, (by first | exact HBD.out.2 rfl | exact HBD.out.2 trivial), hs, rfl⟩
    · have hsz : (s.extract 1 s.size).size ≤ 40000 := by rw [ByteArray.size_extract]; omega
      go_wp2
      go_meet
      exact ⟨_, rfl, (by first | exact HBD.out.1 rfl | exact HBD.out.1 trivial), hsz, rfl⟩
  case rest =>
    obtain ⟨b, rfl, hb, hbs, hwx⟩ := hcut
    obtain rfl := hwx.symm
    have HB := Lib.hid hb
    clear hb h0 h0i hne hsg HBD hs
    go_upto_block 0 with fail
    go_cut [5, 6] (fun s5 s6 wx => ∃ n d : ByteArray, s5 = .string n ∧ s6 = .string d ∧ n.data.toList = decWh (body s.data.toList) ∧ d.data.toList = decPt (body s.data.toList) ∧ n.size ≤ 40000 ∧ d.size ≤ 40000 ∧ ((body s.data.toList).contains 46 = true → digs d.data.toList = true) ∧ Below w.heap.size w wx)
    case first =>
      go_wp2_with fail
      go_loopg [5, 6, 7] b.size (fun g s5 s6 i wr => ∃ k : Nat, k ≤ b.size ∧ g = b.size - k ∧ s5 = .string b ∧ s6 = .string ⟨#[]⟩ ∧ i = .int .i64 k ∧ NoPt b.data.toList k ∧ Below w.heap.size w wr)
      case atStart => exact ⟨0, Nat.zero_le _, by omega, rfl, rfl, rfl, NoPt.zero _, Below.refl _ _⟩
      case round =>
        obtain ⟨k, hk, rfl, rfl, rfl, rfl, hno, hbl⟩ := hrel
        have HN := Lib.hid hno
        have HBl := Lib.hid hbl
        clear hno hbl
        by_cases hlt : k < b.size
        · by_cases h46 : b[k] = 46
          · have h46b : ((b[k].toNat : Int) == 46) = true := by rw [h46]; rfl
            have HS := Lib.hid (noPt_at HN.out hlt h46)
            have hz1 : (b.extract 0 k).size ≤ 40000 := by rw [ByteArray.size_extract]; omega
            have hz2 : (b.extract (k + 1) b.size).size ≤ 40000 := by rw [ByteArray.size_extract]; omega
            have hdg := fun W => refDigits_same (b.extract (k + 1) b.size) W (by omega)
            clear h46
            by_cases hd : digF (b.extract (k + 1) b.size).data.toList = true
            · rw [hd] at hdg
              have HD := Lib.hid hd
              clear hd
              go_wp2_with fail
              go_quiet (fail)
              go_wp2_with fail
              refine (hdg _).mono ?_
              rintro e w2 ⟨rfl, hw2⟩
              subst hw2
              go_wp2
              go_meet
              exact ⟨_, _, rfl, rfl, by rw [← HB.out, HS.out.1], by rw [← HB.out, HS.out.2.1], hz1, hz2, fun _ => HD.out, below_drewN HBl.out _⟩
            · have hdf : digF (b.extract (k + 1) b.size).data.toList = false := by simpa using hd
              rw [hdf] at hdg
              have HD := Lib.hid hdf
              clear hd hdf
              go_wp2_with fail
              go_quiet (fail)
              go_wp2_with fail
              refine (hdg _).mono ?_
              rintro e w2 ⟨rfl, hw2⟩
              subst hw2
              have HNO : Hid (decF s.data.toList = none) := Lib.hid (by
                unfold decF
                rw [if_pos (.inl ⟨by rw [← HB.out]; exact HS.out.2.2, by rw [← HB.out, HS.out.2.1]; exact HD.out⟩)])
              go_wp2
              go_ret2
              exact pdec_none HNO.out (below_drewN HBl.out _)
          · have h46b : ((b[k].toNat : Int) == 46) = false := by
              simp only [beq_eq_false_iff_ne, ne_eq]
              intro e
              exact h46 (UInt8.toNat_inj.1 (by have : (46 : UInt8).toNat = 46 := rfl; omega))
            have HS := Lib.hid (noPt_step HN.out hlt h46)
            clear h46
            go_wp2
            go_roundg (b.size - (k + 1))
            case rel => exact ⟨k + 1, by omega, rfl, rfl, rfl, by go_num, HS.out, HBl.out⟩
            case measure => omega
        · obtain rfl : k = b.size := by omega
          have HS := Lib.hid (noPt_all HN.out)
          go_wp2
          go_meet
          exact ⟨b, ⟨#[]⟩, rfl, rfl, by rw [← HB.out, HS.out.1], by rw [← HB.out, HS.out.2.1], hbs, by decide, (fun h => by rw [← HB.out, HS.out.2.2] at h; cases h), HBl.out⟩
    case rest =>
      obtain ⟨n, d, rfl, rfl, hn, hd, hns, hds, hdg, hbl⟩ := hcut
      have HN := Lib.hid hn
      have HD := Lib.hid hd
      have HDG := Lib.hid hdg
      have HBl := Lib.hid hbl
      clear hn hd hdg hbl HB
      have hdn := fun W => refDigits_same n W (by omega)
      by_cases hw : digF n.data.toList = true
      · rw [hw] at hdn
        have HSOME : Hid (decF s.data.toList = some (redQ ng (dv (n.data.toList ++ d.data.toList)) (10 ^ d.size))) := Lib.hid (by
          unfold decF
          rw [if_neg, HNG.out, ← HN.out, ← HD.out, size_data]
          rintro (⟨h1, h2⟩ | h1)
          · have h3 := HDG.out h1
            rw [HD.out, h2] at h3; cases h3
          · rw [← HN.out] at h1
            rw [show digs n.data.toList = digF n.data.toList from rfl, hw] at h1; cases h1)
        have hall : (n.data.toList ++ d.data.toList).all isD = true := by
          rw [List.all_append, (dig_ne hw).1, Bool.true_and]
          by_cases hc : (body s.data.toList).contains 46 = true
          · exact (dig_ne (HDG.out hc)).1
          · have : d.data.toList = [] := by rw [HD.out]; unfold decPt; rw [if_neg hc]
            rw [this]; rfl
        have hne : n.data.toList ++ d.data.toList ≠ [] := fun e => (dig_ne hw).2 (List.append_eq_nil_iff.1 e).1
        have hsz : (n ++ d).size ≤ 80000 := by rw [ByteArray.size_append]; omega
        have htr := fun W => refTrim_same (n ++ d) W (by omega)
        rw [app_data, trimF_decN _ hall hne] at htr
        obtain ⟨X, hX⟩ : ∃ X, dv (n.data.toList ++ d.data.toList) = X := ⟨_, rfl⟩
        obtain ⟨K, hK⟩ : ∃ K, K = 80001 := ⟨_, rfl⟩
        have hlx : (decN X).length ≤ K := by
          refine decN_len_le (by omega) ?_
          rw [← hX]
          refine Nat.lt_of_lt_of_le (dv_lt _ hall) (ten_le ?_)
          rw [List.length_append, size_data, size_data]; omega
        have hlt10 : (decN (10 ^ d.size)).length ≤ 40001 := by rw [tens]; simp; omega
        have hp10 : 0 < 10 ^ d.size := Nat.pow_pos (by omega)
        have hrd := fun t (ht : t.data.toList = decN (10 ^ d.size)) W => refReduce_any ng ⟨(decN X).toArray⟩ t X (10 ^ d.size) W rfl ht (by rw [sz_txt]; omega) (by rw [← size_data, ht]; omega) hp10
        obtain ⟨m1, m2⟩ := redQ_le ng X (10 ^ d.size) hp10
        have htx := fun W => refText_any (redQ ng X (10 ^ d.size)) W (dec_len_dvd (n := 1000000) (by omega) m1) (dec_len_dvd (n := 1000000) (by omega) m2)
        rw [hX] at htr HSOME
        have HT := Lib.hid (tens d.size)
        clear m1 m2 hX hlx hlt10 hp10 hall hne hw HDG HN HD
        unfold ratV at hrd htx
        generalize (10 ^ d.size) = T at *
        generalize redQ ng X T = qq at *
        generalize (⟨(decN X).toArray⟩ : ByteArray) = px at *
        go_wp2_with fail
        refine (hdn _).mono ?_
        rintro e w2 ⟨rfl, hw2⟩
        subst hw2
        go_wp2_with fail
        go_loop [8, 9] (fun s8 s9 => ∃ (k : Nat) (t : ByteArray), k ≤ d.size ∧ s9 = .int .i64 k ∧ s8 = .string t ∧ t.data.toList = 49 :: List.replicate k 48 ∧ t.size = k + 1) (fun _ s9 => d.size - (intOf s9).toNat)
        case atStart => exact ⟨0, ⟨#[49]⟩, Nat.zero_le _, rfl, rfl, rfl, rfl⟩
        case round =>
          obtain ⟨k, t, hk, rfl, rfl, ht, hts⟩ := hrel
          have HTL := Lib.hid ht
          have HTS := Lib.hid hts
          have htl : t.size ≤ 40001 := by omega
          clear ht hts
          by_cases hlt : k < d.size
          · have HS2 : Hid ((t ++ ⟨#[48]⟩).data.toList = 49 :: List.replicate (k + 1) 48 ∧ (t ++ ⟨#[48]⟩).size = k + 1 + 1) := Lib.hid ⟨by rw [app_data, HTL.out, List.replicate_succ']; rfl, by rw [ByteArray.size_append, HTS.out]; rfl⟩
            have h1s : (⟨#[48]⟩ : ByteArray).size = 1 := rfl
            go_wp2
            go_round
            case rel => exact ⟨k + 1, _, by omega, by go_num, rfl, HS2.out.1, HS2.out.2⟩
            case measure => simp [intOf]; omega
          · obtain rfl : k = d.size := by omega
            have hrd2 := hrd t (by rw [HTL.out, HT.out])
            go_wp2_with fail
            refine (htr _).mono ?_
            rintro e w3 ⟨rfl, hw3⟩
            subst hw3
            go_wp2_with fail
            refine (hrd2 _).mono ?_
            rintro e w4 ⟨rfl, hb4⟩
            have HB4 := Lib.hid (HBl.out.trans (hb4.mono HBl.out.size))
            clear hb4 hrd2 hrd
            go_wp2_with fail
            refine (htx _).mono ?_
            rintro e w5 ⟨rfl, hb5⟩
            have HB5 := Lib.hid (HB4.out.trans (hb5.mono HB4.out.size))
            clear hb5 htx
            go_wp2
            go_ret2
            exact ⟨by rw [HSOME.out]; rfl, HB5.out⟩
      · have hwf : digF n.data.toList = false := by simpa using hw
        rw [hwf] at hdn
        have HNO : Hid (decF s.data.toList = none) := Lib.hid (by
          unfold decF
          rw [if_pos (.inr (by rw [← HN.out]; exact hwf))])
        clear hw hwf HN HD HDG
        go_wp2_with fail
        refine (hdn _).mono ?_
        rintro e w2 ⟨rfl, hw2⟩
        subst hw2
        go_wp2
        go_ret2
        exact pdec_none HNO.out HBl.out
theorem refDecimal_any (s : ByteArray) (w : World) (hs : s.size ≤ 40000) : Calls Tryz.prog 22 #[.string s] w (PDec s.data.toList w) := by
  rcases Nat.eq_zero_or_pos s.size with h0 | h0
  · obtain rfl : s = ⟨#[]⟩ := ByteArray.size_eq_zero_iff.1 h0
    have HNO : Hid (decF (⟨#[]⟩ : ByteArray).data.toList = none) := Lib.hid (by unfold decF; rw [if_pos (.inr rfl)])
    have hdn := fun W => refDigits_same ⟨#[]⟩ W (by decide)
    have e1 : digF (⟨#[]⟩ : ByteArray).data.toList = false := rfl
    rw [e1] at hdn
    clear h0 e1
    go_enter Tryz.func22, Tryz.ntmps22
    go_wp2
    go_loopg [5, 6, 7] 0 (fun g s5 s6 i wr => s5 = .string ⟨#[]⟩ ∧ s6 = .string ⟨#[]⟩ ∧ i = .int .i64 0 ∧ wr = w)
    case atStart => exact ⟨rfl, rfl, rfl, rfl⟩
    case round =>
      obtain ⟨rfl, rfl, rfl, hwr⟩ := hrel
      obtain rfl := hwr.symm
      go_wp2_with fail
      refine (hdn _).mono ?_
      rintro e w2 ⟨rfl, hw2⟩
      subst hw2
      go_wp2
      go_ret2
      exact pdec_none HNO.out (Below.refl _ _)
  · exact refDecimal_pos s w hs h0
end
end Go.Proofs.YtgehimcngljmnaaGreatDoor

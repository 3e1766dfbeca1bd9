/- 'item' reads one item: strings and words. -/
import Derived.Test.YtaffbaacilglgaaGreatDoorKSG
import Derived.Deep.RegionHeld3
namespace Go.Proofs.YtaffbaacilglgaaGreatDoor.Se
open Go.RowKit

set_option maxHeartbeats 2000000 in
set_option maxRecDepth 100000 in
theorem item_text (m : Int) (B : Nat) (w0 w : World) (s : ByteArray) (p : Nat) (its : List It) (op : List Nat) (h : Inv m B w0 w s p its op) (hs : s.size ≤ 65536) (hp : p < s.size) (hg : Good p its op) (hc : s[p].toNat = 34) :
    Calls Tryz.prog 25 #[.pointer (some ⟨B, 0, none⟩)] w (ItemPost m B w0 s ⟨p, its, op⟩) := by
  have hc0 : ((s[p].toNat : Int) == 41) = false := by simp [hc]
  have hc1 : ((s[p].toNat : Int) == 40) = false := by simp [hc]
  have hc2 : ((s[p].toNat : Int) == 34) = true := by simp [hc]
  have HE := itemF_eq s p its op hp
  rw [if_neg (by omega), if_neg (by omega), if_pos hc] at HE
  have HE := Lib.hid HE
  obtain ⟨vi, vo, hr⟩ := h.rd
  have hsrc := hr.src
  have hat := hr.at
  have hfz := hr.fz 1
  have HI := Lib.hid h
  have HG := Lib.hid hg
  have ht := text_any m B w0 w s p its op h hs hp
  clear hr h hg hc
  cases e : Sx.textN (s.data.toList.drop (p + 1)) with
  | none =>
    have HF : Hid (itemF s ⟨p, its, op⟩ = .error (p, 2)) := Lib.hid (by rw [HE.out, e])
    unfold TextPost at ht
    rw [e] at ht
    clear HE e
    go_enter Tryz.func25, Tryz.ntmps25
    go_wp2_with (go_at_call 45; refine ht.mono ?_; rintro e w2 ⟨rfl, k, hk, hi2⟩; have HB := Lib.hid hi2.below; clear hi2)
    go_ret2
    exact ItemPost.error_of HF.out HB.out
  | some x =>
    have HF : Hid (itemF s ⟨p, its, op⟩ = addTo ⟨p, its, op⟩ 4 ⟨x.1.toArray⟩ p (p + 1 + x.2)) := Lib.hid (by rw [HE.out, e])
    unfold TextPost at ht
    rw [e] at ht
    clear HE e
    by_cases hd : 256 < op.length
    · have HF2 : Hid (itemF s ⟨p, its, op⟩ = .error (p, 6)) := Lib.hid (by rw [HF.out]; unfold addTo; rw [if_pos hd])
      go_enter Tryz.func25, Tryz.ntmps25
      go_wp2_with (first
        | (go_at_call 45; refine ht.mono ?_; rintro e w2 ⟨rfl, hi2⟩; have HI2 := Lib.hid hi2; clear hi2)
        | (go_at_call 44; refine (add_deep m B w0 _ s (p + 1 + x.2) its op HI2.out hd 4 p ⟨x.1.toArray⟩).mono ?_; rintro e w3 ⟨rfl, hw3⟩; subst hw3))
      go_ret2
      exact ItemPost.error_of HF2.out HI2.out.below
    · have HF2 : Hid (itemF s ⟨p, its, op⟩ = .ok ⟨p + 1 + x.2, bumpAt its op.getLast? ++ [⟨4, ⟨x.1.toArray⟩, 0, p⟩], op⟩) := Lib.hid (by rw [HF.out]; unfold addTo; rw [if_neg hd])
      go_enter Tryz.func25, Tryz.ntmps25
      go_wp2_with (first
        | (go_at_call 45; refine ht.mono ?_; rintro e w2 ⟨rfl, hi2⟩; have HI2 := Lib.hid hi2; clear hi2)
        | (go_at_call 44; refine (add_ok m B w0 _ s (p + 1 + x.2) p its op HI2.out hd HG.out (by omega) 4 ⟨x.1.toArray⟩).mono ?_; rintro e w3 ⟨rfl, hi3⟩; have HI3 := Lib.hid hi3; clear hi3))
      go_ret2
      exact ItemPost.ok_of HF2.out HI3.out
theorem isWordByte_q (c : UInt8) (w : World) :
    Calls Tryz.prog 46 #[.int .u8 c.toNat] w fun e w' => e = .returned (.bool (Sx.wb c)) ∧ w' = w := (isWordByte_any c w).mono fun _ _ h => ⟨h.1, h.2.symm⟩
theorem wordN_step (s : ByteArray) (k : Nat) (h : k < s.size) (hb : Sx.wb s[k] = true) : wordN s k = 1 + wordN s (k + 1) := by
  unfold wordN; rw [drop_at s k h, List.takeWhile_cons, hb]; simp; omega
theorem wordN_stop (s : ByteArray) (k : Nat) (h : k < s.size) (hb : Sx.wb s[k] = false) : wordN s k = 0 := by
  unfold wordN; rw [drop_at s k h, List.takeWhile_cons, hb]; simp
theorem wordN_end (s : ByteArray) (k : Nat) (h : ¬ k < s.size) : wordN s k = 0 := by
  unfold wordN; rw [drop_end s k h]; simp
theorem wordN_le (s : ByteArray) (k : Nat) : wordN s k ≤ s.size - k := by
  unfold wordN
  refine Nat.le_trans (List.takeWhile_sublist _).length_le ?_
  rw [List.length_drop, len_data]; omega

theorem Inv.far {m B w0 w w' s p its op} (h : Inv m B w0 w s p its op) (hb : Below w.heap.size w w') : Inv m B w0 w' s p its op := by
  obtain ⟨vi, vo, ha⟩ := h.at
  exact (ha.far ha.has (fun g hg => (ha.rd.rowi.lt g hg).2) (fun g hg => (ha.rd.rowo.lt g hg).2) hb).inv

set_option maxHeartbeats 2000000 in
set_option maxRecDepth 100000 in
theorem item_word (m : Int) (B : Nat) (w0 w : World) (s : ByteArray) (p : Nat) (its : List It) (op : List Nat) (h : Inv m B w0 w s p its op) (hs : s.size ≤ 65536) (hp : p < s.size) (hg : Good p its op) (h41 : ¬ s[p].toNat = 41) (h40 : ¬ s[p].toNat = 40) (h34 : ¬ s[p].toNat = 34) :
    Calls Tryz.prog 25 #[.pointer (some ⟨B, 0, none⟩)] w (ItemPost m B w0 s ⟨p, its, op⟩) := by
  have hc0 : ((s[p].toNat : Int) == 41) = false := by simp; omega
  have hc1 : ((s[p].toNat : Int) == 40) = false := by simp; omega
  have hc2 : ((s[p].toNat : Int) == 34) = false := by simp; omega
  have HE := itemF_eq s p its op hp
  rw [if_neg h41, if_neg h40, if_neg h34] at HE
  have HE := Lib.hid HE
  obtain ⟨vi, vo, hr⟩ := h.rd
  have hsrc := hr.src
  have hat := hr.at
  have HI := Lib.hid h
  have HG := Lib.hid hg
  clear hr h hg h41 h40 h34
  go_enter Tryz.func25, Tryz.ntmps25
  go_wp2
  go_loopw [102] (fun _ wr => ∃ k : Nat, p ≤ k ∧ k ≤ s.size ∧ Inv m B w0 wr s k its op ∧ k + wordN s k = p + wordN s p)
    (fun _ wr => s.size - (match wr.cell? ⟨B, 1, none⟩ with | some (.int _ k) => k.toNat | _ => 0))
  case atStart => exact ⟨p, Nat.le_refl _, by omega, HI.out, rfl⟩
  case round =>
    obtain ⟨k, hk1, hk2, hI, hk⟩ := hrel
    have HK := Lib.hid hk
    obtain ⟨vi, vo, hr⟩ := hI.rd
    clear hat hsrc hk
    have hsrc := hr.src
    have hat := hr.at
    have hfz := hr.fz 1
    have HI2 := Lib.hid hI
    clear hr hI HI
    by_cases hlt : k < s.size
    · have hlt1 : decide ((k : Int) < s.size) = true := by simp; omega
      by_cases hb : Sx.wb s[k] = true
      · go_wp2
        go_quiet ((go_at_call 46; exact Calls.quiet_of_same (isWordByte_q _ _)))
        go_wp2
        go_roundw
        case rel => exact ⟨k + 1, by omega, by omega, (HI2.out.drewN _).setPos (k + 1) _ (by omega), by have := HK.out; rw [wordN_step s k hlt hb] at this; omega⟩
        case measure =>
          rw [World.cell?_setCell_same _ _ _ (HI2.out.drewN _).cellAt, hat]
          show s.size - ((k : Int) + 1).toNat < s.size - (k : Int).toNat
          omega
      · have hb' : Sx.wb s[k] = false := by simpa using hb
        have HN : Hid (k = p + wordN s p) := Lib.hid (by have := HK.out; rw [wordN_stop s k hlt hb'] at this; omega)
        clear hb
        go_wp2
        go_quiet ((go_at_call 46; exact Calls.quiet_of_same (isWordByte_q _ _)))
        rename_i nq
        have hI3 := HI2.out.drewN nq
        go_wp2
        generalize wr.drewN nq = wz at *
        obtain ⟨vi3, vo3, hr3⟩ := hI3.rd
        have hsrc3 := hr3.src
        have hat3 := hr3.at
        have HI4 := Lib.hid hI3.drew
        clear hr3 hI3 hsrc hat hfz
        have hb0 : (0 : Int) ≤ (p : Int) := by omega
        have hb1 : (p : Int) ≤ (k : Int) := by omega
        have hb2 : (k : Int) ≤ (s.size : Int) := by omega
        go_still_tail 10, (by kernel_rfl)
        change wpList _ _ _ _ _ wz.drew
        generalize wz.drew = w2 at *
        clear hsrc3 hat3
        have hxs : (s.extract p k).size < 4294967281 := by rw [ByteArray.size_extract]; omega
        obtain ⟨kd, hkd⟩ : ∃ kd, kd = Sx.wkind (s.extract p k).data.toList := ⟨_, rfl⟩
        have HE2 : Hid (itemF s ⟨p, its, op⟩ = if kd = 0 then .error (p, 2) else addTo ⟨p, its, op⟩ kd (s.extract p k) p k) := Lib.hid (by rw [HE.out, ← HN.out, hkd])
        have HW : Hid (∀ w : World, w.cell? ⟨0, 0, none⟩ = some (.int .i64 m) → Calls Tryz.prog 47 #[.string (s.extract p k)] w fun e w' => e = .returned (.int .i64 kd) ∧ Below w.heap.size w w') := Lib.hid (fun w hw => by rw [hkd]; exact wordKind_any (s.extract p k) m w hxs hw)
        clear HE HN hkd
        go_wp2_with (go_at_call 47; refine (HW.out _ HI4.out.len).mono ?_; rintro e w3 ⟨rfl, hb3⟩; have HI5 := Lib.hid (HI4.out.far hb3); clear hb3)
        · have hz : kd = 0 := beq_iff_eq.1 (show (kd == 0) = true by assumption)
          go_ret2
          exact ItemPost.error_of (by rw [HE2.out, if_pos hz]) HI5.out.below
        · have hz : ¬ kd = 0 := beq_eq_false_iff_ne.1 (show (kd == 0) = false by assumption)
          obtain ⟨vi5, vo5, hr5⟩ := HI5.out.rd
          have hsrc5 := hr5.src
          have hat5 := hr5.at
          have HI6 := Lib.hid HI5.out.drew
          clear hr5 HI5
          by_cases hd : 256 < op.length
          · go_region_held3 (fun w' => w'.cell? ⟨B, 0, none⟩ = some (.string s) ∧ w'.cell? ⟨B, 1, none⟩ = some (.int .i64 k)) (first | go_keep | exact ⟨hs7, ha7⟩) ((go_at_call 44; refine (add_deep m B w0 _ s k its op HI6.out hd (kd) p (s.extract p k)).mono ?_; rintro e w5 ⟨rfl, hw5⟩; subst hw5))
            all_goals (try go_wp2)
            all_goals go_ret2
            all_goals exact ItemPost.error_of (k := 6) (by rw [HE2.out, if_neg hz]; unfold addTo; rw [if_pos hd]) HI6.out.below
          · go_region_held3 (fun w' => w'.cell? ⟨B, 0, none⟩ = some (.string s) ∧ w'.cell? ⟨B, 1, none⟩ = some (.int .i64 k)) (first | go_keep | exact ⟨hs7, ha7⟩) ((go_at_call 44; refine (add_ok m B w0 _ s k p its op HI6.out hd HG.out (by omega) (kd) (s.extract p k)).mono ?_; rintro e w5 ⟨rfl, hi5⟩; have HI7 := Lib.hid hi5; have hs7 := hi5.rd.choose_spec.choose_spec.src; have ha7 := hi5.rd.choose_spec.choose_spec.at; clear hi5))
            all_goals (try go_wp2)
            all_goals go_ret2
            all_goals exact ItemPost.ok_of (x := ⟨k, bumpAt its op.getLast? ++ [⟨kd, s.extract p k, 0, p⟩], op⟩) (by rw [HE2.out, if_neg hz]; unfold addTo; rw [if_neg hd]) HI7.out
    · have hlt1 : decide ((k : Int) < s.size) = false := by simp; omega
      have HN : Hid (k = p + wordN s p) := Lib.hid (by have := HK.out; rw [wordN_end s k hlt] at this; omega)
      go_wp2
      go_quiet (fail)
      rename_i nq
      have hI3 := HI2.out.drewN nq
      go_wp2
      generalize wr.drewN nq = wz at *
      obtain ⟨vi3, vo3, hr3⟩ := hI3.rd
      have hsrc3 := hr3.src
      have hat3 := hr3.at
      have HI4 := Lib.hid hI3.drew
      clear hr3 hI3 hsrc hat hfz
      have hb0 : (0 : Int) ≤ (p : Int) := by omega
      have hb1 : (p : Int) ≤ (k : Int) := by omega
      have hb2 : (k : Int) ≤ (s.size : Int) := by omega
      go_still_tail 10, (by kernel_rfl)
      change wpList _ _ _ _ _ wz.drew
      generalize wz.drew = w2 at *
      clear hsrc3 hat3
      have hxs : (s.extract p k).size < 4294967281 := by rw [ByteArray.size_extract]; omega
      obtain ⟨kd, hkd⟩ : ∃ kd, kd = Sx.wkind (s.extract p k).data.toList := ⟨_, rfl⟩
      have HE2 : Hid (itemF s ⟨p, its, op⟩ = if kd = 0 then .error (p, 2) else addTo ⟨p, its, op⟩ kd (s.extract p k) p k) := Lib.hid (by rw [HE.out, ← HN.out, hkd])
      have HW : Hid (∀ w : World, w.cell? ⟨0, 0, none⟩ = some (.int .i64 m) → Calls Tryz.prog 47 #[.string (s.extract p k)] w fun e w' => e = .returned (.int .i64 kd) ∧ Below w.heap.size w w') := Lib.hid (fun w hw => by rw [hkd]; exact wordKind_any (s.extract p k) m w hxs hw)
      clear HE HN hkd
      go_wp2_with (go_at_call 47; refine (HW.out _ HI4.out.len).mono ?_; rintro e w3 ⟨rfl, hb3⟩; have HI5 := Lib.hid (HI4.out.far hb3); clear hb3)
      · have hz : kd = 0 := beq_iff_eq.1 (show (kd == 0) = true by assumption)
        go_ret2
        exact ItemPost.error_of (by rw [HE2.out, if_pos hz]) HI5.out.below
      · have hz : ¬ kd = 0 := beq_eq_false_iff_ne.1 (show (kd == 0) = false by assumption)
        obtain ⟨vi5, vo5, hr5⟩ := HI5.out.rd
        have hsrc5 := hr5.src
        have hat5 := hr5.at
        have HI6 := Lib.hid HI5.out.drew
        clear hr5 HI5
        by_cases hd : 256 < op.length
        · go_region_held3 (fun w' => w'.cell? ⟨B, 0, none⟩ = some (.string s) ∧ w'.cell? ⟨B, 1, none⟩ = some (.int .i64 k)) (first | go_keep | exact ⟨hs7, ha7⟩) ((go_at_call 44; refine (add_deep m B w0 _ s k its op HI6.out hd (kd) p (s.extract p k)).mono ?_; rintro e w5 ⟨rfl, hw5⟩; subst hw5))
          all_goals (try go_wp2)
          all_goals go_ret2
          all_goals exact ItemPost.error_of (k := 6) (by rw [HE2.out, if_neg hz]; unfold addTo; rw [if_pos hd]) HI6.out.below
        · go_region_held3 (fun w' => w'.cell? ⟨B, 0, none⟩ = some (.string s) ∧ w'.cell? ⟨B, 1, none⟩ = some (.int .i64 k)) (first | go_keep | exact ⟨hs7, ha7⟩) ((go_at_call 44; refine (add_ok m B w0 _ s k p its op HI6.out hd HG.out (by omega) (kd) (s.extract p k)).mono ?_; rintro e w5 ⟨rfl, hi5⟩; have HI7 := Lib.hid hi5; have hs7 := hi5.rd.choose_spec.choose_spec.src; have ha7 := hi5.rd.choose_spec.choose_spec.at; clear hi5))
          all_goals (try go_wp2)
          all_goals go_ret2
          all_goals exact ItemPost.ok_of (x := ⟨k, bumpAt its op.getLast? ++ [⟨kd, s.extract p k, 0, p⟩], op⟩) (by rw [HE2.out, if_neg hz]; unfold addTo; rw [if_neg hd]) HI7.out


/-- one item, whatever it begins with -/
theorem item_any (m : Int) (B : Nat) (w0 w : World) (s : ByteArray) (p : Nat) (its : List It) (op : List Nat) (h : Inv m B w0 w s p its op) (hs : s.size ≤ 65536) (hp : p < s.size) (hg : Good p its op) :
    Calls Tryz.prog 25 #[.pointer (some ⟨B, 0, none⟩)] w (ItemPost m B w0 s ⟨p, its, op⟩) := by
  by_cases h41 : s[p].toNat = 41
  · exact item_close m B w0 w s p its op h hs hp hg h41
  · by_cases h40 : s[p].toNat = 40
    · exact item_open m B w0 w s p its op h hs hp hg h40
    · by_cases h34 : s[p].toNat = 34
      · exact item_text m B w0 w s p its op h hs hp hg h34
      · exact item_word m B w0 w s p its op h hs hp hg h41 h40 h34
end Go.Proofs.YtaffbaacilglgaaGreatDoor.Se

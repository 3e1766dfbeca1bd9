/- fromParts of package exact: an integer of a sign and words. -/
import Derived.Test.YtgehimcngljmnaaGreatDoorH
namespace Go.Proofs.YtgehimcngljmnaaGreatDoor
open Go.RowKit Nmx

theorem or_word (n x : Nat) (hn : n < 4294967296) (hx : x < 4294967296) : bits .or .u64 ((n : Int) * 4294967296) (x : Int) = ((x + 4294967296 * n : Nat) : Int) := by
  have e : (n : Int) * 4294967296 = ((n * 4294967296 : Nat) : Int) := by omega
  rw [e, u64_or_nat _ _ (by omega) (by omega), nat_join 32 _ _ (by omega) (by omega)]
  omega
theorem word_drop {t : List Nat} (ht : Ws t) (h2 : t.length ≤ 2) {k : Nat} (hk : 0 < k) (hl : k ≤ t.length) : wv (t.drop k) < 4294967296 ∧ t.getD (k - 1) 0 < 4294967296 ∧ wv (t.drop (k - 1)) = t.getD (k - 1) 0 + 4294967296 * wv (t.drop k) := by
  have h1 := wv_lt _ (ht.drop k)
  have h3 := ht.getD (k - 1)
  have h4 := wv_drop_getD t (k - 1) (by omega)
  rw [show k - 1 + 1 = k by omega] at h4
  have h5 : BB ^ (t.drop k).length ≤ BB ^ 1 := Nat.pow_le_pow_right BB_pos (by rw [List.length_drop]; omega)
  rw [Nat.pow_one] at h5
  rw [BB_eq] at *
  exact ⟨by omega, h3, h4⟩
theorem two_lt {t : List Nat} (ht : Ws t) (h2 : t.length ≤ 2) : wv t < 18446744073709551616 := by
  have h1 := wv_lt _ ht
  have h5 : BB ^ t.length ≤ BB ^ 2 := Nat.pow_le_pow_right BB_pos h2
  rw [BB_eq] at *
  omega
theorem three_ge {t : List Nat} (ht : Norm t) (h2 : 2 < t.length) : ¬ Small (wv t) := by
  have h1 := norm_pos t ht (fun e => by subst e; simp at h2)
  have h5 : BB ^ 2 ≤ BB ^ (t.length - 1) := Nat.pow_le_pow_right BB_pos (by omega)
  rw [BB_eq] at *
  unfold Small
  omega
theorem sgn_true (n : Nat) : sgn true n = -(n : Int) := rfl
theorem sgn_false (n : Nat) : sgn false n = (n : Int) := rfl
theorem sgn_small {b : Bool} {n : Nat} (h : n ≤ 9223372036854775807) : Small (sgn b n) := by unfold Small; cases b <;> simp [sgn] <;> omega

section
set_option maxRecDepth 100000
set_option maxHeartbeats 2000000
theorem fromParts_any (neg : Bool) (v : Value) (l : List Nat) (w : World) (h : WV w v l) (hl : l.length ≤ 1000000) : Calls Tryz.prog 119 #[.bool neg, v] w (GetsI (sgn neg (wv l)) w) := by
  obtain ⟨ao, g, off, cap, rfl, hw⟩ := h
  have htr := fun o : Obj => trim_any ao g off cap l (w.alloc o) (hw.far ((Below.refl _ _).alloc (Nat.le_refl _) _))
  have htn := trimW_norm l hw.ws
  have hwv := trimW_wv l
  have htl := trimW_len l
  have hW : WS w ao g off cap (trimW l) := by rw [trimW_take]; exact hw.take _
  rw [← hwv]
  clear hwv
  have hcap := hw.most
  have hle := hw.le
  clear hw
  generalize trimW l = t at *
  have HW := Lib.hid hW
  have HN := Lib.hid htn
  clear hW htn
  by_cases h2 : t.length ≤ 2
  · have hlt := two_lt HN.out.1 h2
    have HLT := Lib.hid hlt
    clear hlt
    go_enter Tryz.func119, Tryz.ntmps119
    go_wp2_with fail
    refine (htr _).mono ?_
    rintro e w1 ⟨rfl, rfl⟩
    go_wp2
    go_loop [5, 6] (fun n i => ∃ k : Nat, k ≤ t.length ∧ n = .int .u64 (wv (t.drop k)) ∧ i = .int .i64 ((k : Int) - 1)) (fun _ i => (intOf i + 1).toNat)
    case atStart => exact ⟨t.length, Nat.le_refl _, by rw [List.drop_of_length_le (Nat.le_refl _)]; rfl, rfl⟩
    case round =>
      obtain ⟨k, hk, rfl, rfl⟩ := hrel
      rcases Nat.eq_zero_or_pos k with h0 | h0
      · subst h0
        have e0 : t.drop 0 = t := List.drop_zero
        rw [e0]
        clear e0
        have HM := HLT.out
        by_cases hs : wv t ≤ 9223372036854775807
        · have HS := Lib.hid (sgn_small (b := neg) hs)
          clear HLT
          generalize hn : wv t = n at *
          clear hn
          cases neg
          · have HE := Lib.hid (sgn_false n)
            go_wp2
            rw [HE.out]
            exact bodyPost_ret (v := smallV n) (by simp [results, Tryz.results119, go_sem, smallV]) rfl ⟨_, rfl, small_iv _ HS.out, (Below.refl _ _).alloc (Nat.le_refl _) _⟩
          · have HE := Lib.hid (sgn_true n)
            go_wp2
            rw [HE.out]
            exact bodyPost_ret (v := smallV (-n)) (by simp [results, Tryz.results119, go_sem, smallV]) rfl ⟨_, rfl, small_iv _ HS.out, (Below.refl _ _).alloc (Nat.le_refl _) _⟩
        · have hbig : Big t := ⟨HN.out, by unfold Small; omega, by omega⟩
          have hpos : 0 < cap := by
            have h1 := HW.out.le
            rcases Nat.eq_zero_or_pos cap with h | h
            · have : t = [] := List.length_eq_zero_iff.1 (by omega)
              subst this
              exact absurd (Nat.zero_le _) hs
            · exact h
          have had := HW.out.ad hpos
          subst had
          have HBg := Lib.hid hbig
          clear hbig HLT
          generalize hn : wv t = n at *
          have HE := Lib.hid hn
          clear hn
          go_wp2
          have hbl : Below w.heap.size w (w.alloc (.cells #[.int .i64 0, .bool neg, .slice (some ⟨g, off, none⟩) t.length cap] 58)) := (Below.refl _ _).alloc (Nat.le_refl _) _
          exact bodyPost_ret (v := bigV neg (some ⟨g, off, none⟩) t.length cap) (by simp [results, Tryz.results119, go_sem, bigV]) rfl
            ⟨_, rfl, .inr ⟨neg, g, off, cap, t, rfl, HW.out.far hbl, HBg.out, by rw [HE.out]⟩, hbl⟩
      · obtain ⟨h3, h4, h5⟩ := word_drop HN.out.1 h2 h0 hk
        have hca := HW.out.at_ (k - 1) (by omega)
        have hg := HW.out.lt (by have := HW.out.le; omega)
        have had := HW.out.ad (by have := HW.out.le; omega)
        subst had
        have HD := Lib.hid h5
        clear h5
        generalize t.getD (k - 1) 0 = x at *
        generalize hn : wv (t.drop k) = n at *
        clear hn
        have hor := or_word n x h3 h4
        have hp : (0 : Int) ≤ (k : Int) - 1 := by omega
        have hi2 : ((k : Int) - 1).toNat = k - 1 := by omega
        have hi3 : (k : Int) - 1 < (t.length : Int) := by omega
        go_wp2
        go_round
        case rel => exact ⟨k - 1, by omega, by rw [HD.out]; congr 1, by congr 1; omega⟩
        case measure => simp [intOf]; omega
  · have hbig : Big t := ⟨HN.out, three_ge HN.out (by omega), by omega⟩
    have had := HW.out.ad (by have := HW.out.le; omega)
    subst had
    have HBg := Lib.hid hbig
    clear hbig
    go_enter Tryz.func119, Tryz.ntmps119
    go_wp2_with fail
    refine (htr _).mono ?_
    rintro e w1 ⟨rfl, rfl⟩
    go_wp2
    have hbl : Below w.heap.size w (w.alloc (.cells #[.int .i64 0, .bool neg, .slice (some ⟨g, off, none⟩) t.length cap] 58)) := (Below.refl _ _).alloc (Nat.le_refl _) _
    exact bodyPost_ret (v := bigV neg (some ⟨g, off, none⟩) t.length cap) (by simp [results, Tryz.results119, go_sem, bigV]) rfl
      ⟨_, rfl, .inr ⟨neg, g, off, cap, t, rfl, HW.out.far hbl, HBg.out, rfl⟩, hbl⟩
end
end Go.Proofs.YtgehimcngljmnaaGreatDoor

/- longDivision, divWords of package exact. -/
import Derived.Test.YthefknoicelhaaaGreatDoorFNM
import Derived.Test.YthefknoicelhaaaGreatDoorFNB
import Derived.Lib.BitFns
import Derived.Test.YthefknoicelhaaaGreatDoorFShelf
import Derived.Deep.RegionWith
import Derived.Test.YthefknoicelhaaaGreatDoorFNL
import Derived.Laws.AppendOwnNone
import Derived.Deep.RegionHeld3
namespace Go.Proofs.YthefknoicelhaaaGreatDoor
open Go.RowKit Nmx

theorem wv_drop_zero (l : List Nat) (n : Nat) (h : wv l < BB ^ n) : wv (l.drop n) = 0 := by
  rcases Nat.lt_or_ge n l.length with hn | hn
  · have h1 := wv_split l n
    rw [Nat.min_eq_left (by omega)] at h1
    rcases Nat.eq_zero_or_pos (wv (l.drop n)) with h2 | h2
    · exact h2
    · have : BB ^ n * 1 ≤ BB ^ n * wv (l.drop n) := Nat.mul_le_mul_left _ h2
      omega
  · rw [List.drop_of_length_le hn]; rfl
/-- a long quotient: the words from k on are done; A is what was to be divided, U what is left of it -/
structure LongR (A d Q U : List Nat) (k : Nat) : Prop where
  lenQ : Q.length + d.length = A.length
  lenU : U.length = A.length
  wsQ : Ws Q
  wsU : Ws U
  low : ∀ i, i < k → U.getD i 0 = A.getD i 0
  less : wv (U.drop k) < wv d
  val : wv (Q.drop k) * wv d + wv (U.drop k) = wv (A.drop k)
theorem LongR.start {A d : List Nat} {m : Nat} (hA : Ws A) (hl : m + 1 + d.length = A.length) (h : wv (A.drop (m + 1)) < wv d) : LongR A d (List.replicate (m + 1) 0) A (m + 1) :=
  ⟨by rw [List.length_replicate]; exact hl, rfl, Ws.zeros _, hA, fun _ _ => rfl, h, by rw [List.drop_of_length_le (by rw [List.length_replicate]; exact Nat.le_refl _)]; simp [wv_nil]⟩
/-- the window that is divided next -/
theorem LongR.window {A d Q U : List Nat} {j : Nat} (h : LongR A d Q U (j + 1)) (hd : Ws d) (hj : j < Q.length) :
    U = U.take j ++ (U.drop j).take (d.length + 1) ++ U.drop (j + d.length + 1) ∧ (U.take j).length = j ∧ ((U.drop j).take (d.length + 1)).length = d.length + 1 ∧ Ws ((U.drop j).take (d.length + 1)) ∧ wv ((U.drop j).take (d.length + 1)) = wv (U.drop j) ∧ wv (U.drop j) < BB * wv d ∧ wv (U.drop (j + d.length + 1)) = 0 := by
  have h1 := h.lenQ
  have h2 := h.lenU
  have hz : wv (U.drop (j + d.length + 1)) = 0 := by
    have h3 := wv_lt d hd
    have h4 := wv_drop_zero (U.drop (j + 1)) d.length (by have := h.less; omega)
    rwa [List.drop_drop, show j + 1 + d.length = j + d.length + 1 by omega] at h4
  have e1 : (U.drop j).drop (d.length + 1) = U.drop (j + d.length + 1) := by rw [List.drop_drop, Nat.add_assoc]
  have e2 := wv_split (U.drop j) (d.length + 1)
  rw [e1, hz, Nat.mul_zero, Nat.add_zero] at e2
  refine ⟨?_, by rw [List.length_take]; omega, by rw [List.length_take, List.length_drop]; omega, (h.wsU.drop j).take _, e2.symm, ?_, hz⟩
  · rw [← e1, List.append_assoc, List.take_append_drop, List.take_append_drop]
  · rw [wv_drop_getD U j (by omega)]
    have h5 := h.wsU.getD j
    have h6 : BB * (wv (U.drop (j + 1)) + 1) ≤ BB * wv d := Nat.mul_le_mul_left _ h.less
    rw [Nat.mul_add, Nat.mul_one] at h6
    omega
theorem LongR.step {A d Q U : List Nat} {j : Nat} (h : LongR A d Q U (j + 1)) (hd : Ws d) (hj : j < Q.length) (u' : List Nat) (hl : u'.length = d.length + 1) (hw : Ws u') (hv : wv u' = wv ((U.drop j).take (d.length + 1)) % wv d) :
    LongR A d (Q.set j (wv ((U.drop j).take (d.length + 1)) / wv d)) (U.take j ++ u' ++ U.drop (j + d.length + 1)) j := by
  obtain ⟨w1, w2, w3, w4, w5, w6, w7⟩ := h.window hd hj
  have h1 := h.lenQ
  have h2 := h.lenU
  rw [w5] at hv ⊢
  have hd0 : 0 < wv d := by have := h.less; omega
  have hq : wv (U.drop j) / wv d < BB := (Nat.div_lt_iff_lt_mul hd0).2 w6
  have e3 : (U.take j ++ u' ++ U.drop (j + d.length + 1)).drop j = u' ++ U.drop (j + d.length + 1) := by
    rw [List.append_assoc, List.drop_append_of_le_length (by omega), List.drop_of_length_le (by omega), List.nil_append]
  have e4 : wv (u' ++ U.drop (j + d.length + 1)) = wv (U.drop j) % wv d := by rw [wv_append, w7, Nat.mul_zero, Nat.add_zero, hv]
  refine ⟨by rw [List.length_set]; exact h1, by simp only [List.length_append, List.length_drop, w2, hl]; omega, h.wsQ.set _ hq, ((h.wsU.take j).append hw).append (h.wsU.drop _), fun i hi => ?_, ?_, ?_⟩
  · rw [← h.low i (by omega)]
    simp only [List.getD_eq_getElem?_getD]
    rw [List.append_assoc, List.getElem?_append_left (by omega), List.getElem?_take, if_pos hi]
  · rw [e3, e4]; exact Nat.mod_lt _ hd0
  · rw [e3, e4, wv_drop_getD (Q.set j _) j (by rw [List.length_set]; exact hj), getD_set_same Q j _ hj, List.drop_set_of_lt (by omega), wv_drop_getD A j (by omega), ← h.low j (by omega), ← h.val]
    have h8 := Nat.mod_add_div (wv (U.drop j)) (wv d)
    have h9 := wv_drop_getD U j (by omega)
    rw [Nat.add_mul, Nat.mul_add BB, ← Nat.mul_assoc BB, Nat.mul_comm (wv (U.drop j) / wv d)]
    omega
theorem LongR.done {A d Q U : List Nat} (h : LongR A d Q U 0) : wv Q = wv A / wv d ∧ wv U = wv A % wv d := by
  have h1 := h.val
  have h2 := h.less
  rw [List.drop_zero] at h1 h2
  rw [List.drop_zero, List.drop_zero] at h1
  have hd0 : 0 < wv d := by omega
  rw [← h1]
  refine ⟨?_, ?_⟩
  · rw [Nat.mul_comm, Nat.mul_add_div hd0, Nat.div_eq_of_lt h2, Nat.add_zero]
  · rw [Nat.mul_comm, Nat.mul_add_mod, Nat.mod_eq_of_lt h2]
theorem bitLen_two (x : Nat) : x ≠ 0 → x < 2 ^ 64 → ∃ L, Lib.bitLen x = L + 1 ∧ 2 ^ L ≤ x ∧ x < 2 ^ (L + 1) := by
  induction x using Nat.strongRecOn with
  | _ x ih =>
    intro h0 hx
    rw [Lib.bitLen_half x h0 hx]
    by_cases h1 : x / 2 = 0
    · obtain rfl : x = 1 := by omega
      exact ⟨0, by decide, by decide, by decide⟩
    · obtain ⟨L, e, l1, l2⟩ := ih (x / 2) (by omega) h1 (by omega)
      exact ⟨L + 1, by rw [e]; omega, by rw [Nat.pow_succ]; omega, by rw [Nat.pow_succ]; omega⟩
theorem norm_shift {b : List Nat} {n : Nat} (hb : Ws b) (hl : b.length = n + 1) {s L : Nat} (h1 : 2 ^ L ≤ b.getD n 0) (h2 : b.getD n 0 < 2 ^ (L + 1)) (hs : s + (L + 1) = 32) : wv b * 2 ^ s < BB ^ (n + 1) ∧ 2147483648 * BB ^ n ≤ wv b * 2 ^ s := by
  have e1 := wv_top1 b n hl
  have l1 := wv_lt _ (hb.take n)
  rw [List.length_take, Nat.min_eq_left (by omega)] at l1
  have p1 : 2 ^ s * 2 ^ (L + 1) = BB := by rw [← Nat.pow_add, hs, BB_eq]
  have p2 : 2 ^ s * 2 ^ L = 2147483648 := by rw [← Nat.pow_add, show s + L = 31 by omega]
  have p3 : 0 < 2 ^ s := Nat.pow_pos (by omega)
  have a1 : BB ^ n * (b.getD n 0 + 1) ≤ BB ^ n * 2 ^ (L + 1) := Nat.mul_le_mul_left _ h2
  have a2 : BB ^ n * 2 ^ L ≤ BB ^ n * b.getD n 0 := Nat.mul_le_mul_left _ h1
  rw [Nat.mul_add, Nat.mul_one] at a1
  have a3 : wv b < BB ^ n * 2 ^ (L + 1) := by omega
  have a4 : BB ^ n * 2 ^ L ≤ wv b := by omega
  refine ⟨?_, ?_⟩
  · have a5 : wv b * 2 ^ s < BB ^ n * 2 ^ (L + 1) * 2 ^ s := Nat.mul_lt_mul_of_pos_right a3 p3
    rw [Nat.mul_assoc, Nat.mul_comm (2 ^ (L + 1)), p1, ← Nat.pow_succ] at a5
    exact a5
  · have a6 : BB ^ n * 2 ^ L * 2 ^ s ≤ wv b * 2 ^ s := Nat.mul_le_mul_right _ a4
    rw [Nat.mul_assoc, Nat.mul_comm (2 ^ L), p2, Nat.mul_comm] at a6
    exact a6
theorem shifted_div {l : List Nat} {n : Nat} (hl : l.length = n + 2) (hw : Ws l) (h : wv l < BB ^ (n + 1)) (hlow : 2147483648 * BB ^ n ≤ wv l) : wv (l.take (n + 1)) = wv l ∧ 2147483648 ≤ (l.take (n + 1)).getD n 0 ∧ (l.take (n + 1)).length = n + 1 := by
  have e1 := wv_top1 l (n + 1) hl
  have h0 : l.getD (n + 1) 0 = 0 := by
    rcases Nat.eq_zero_or_pos (l.getD (n + 1) 0) with h2 | h2
    · exact h2
    · have : BB ^ (n + 1) * 1 ≤ BB ^ (n + 1) * l.getD (n + 1) 0 := Nat.mul_le_mul_left _ h2
      omega
  rw [h0, Nat.mul_zero, Nat.add_zero] at e1
  have hlen : (l.take (n + 1)).length = n + 1 := by rw [List.length_take]; omega
  refine ⟨e1.symm, ?_, hlen⟩
  have e2 := wv_top1 (l.take (n + 1)) n hlen
  have l1 := wv_lt _ ((hw.take (n + 1)).take n)
  rw [List.length_take, hlen, Nat.min_eq_left (by omega)] at l1
  rcases Nat.lt_or_ge ((l.take (n + 1)).getD n 0) 2147483648 with h3 | h3
  · exfalso
    have : BB ^ n * ((l.take (n + 1)).getD n 0 + 1) ≤ BB ^ n * 2147483648 := Nat.mul_le_mul_left _ h3
    rw [Nat.mul_add, Nat.mul_one] at this
    have e3 := Nat.mul_comm (BB ^ n) 2147483648
    omega
  · exact h3
theorem start_less {A d : List Nat} {m n : Nat} (hl : A.length = m + 1 + (n + 1)) (hA : Ws A) (htop : A.getD (m + 1 + n) 0 < 2147483648) (hlow : 2147483648 * BB ^ n ≤ wv d) : wv (A.drop (m + 1)) < wv d := by
  have hlen : (A.drop (m + 1)).length = n + 1 := by rw [List.length_drop]; omega
  have e1 := wv_top1 _ n hlen
  have e2 : (A.drop (m + 1)).getD n 0 = A.getD (m + 1 + n) 0 := by simp only [List.getD_eq_getElem?_getD, List.getElem?_drop]
  have l1 := wv_lt _ ((hA.drop (m + 1)).take n)
  rw [List.length_take, hlen, Nat.min_eq_left (by omega)] at l1
  rw [e2] at e1
  have : BB ^ n * (A.getD (m + 1 + n) 0 + 1) ≤ BB ^ n * 2147483648 := Nat.mul_le_mul_left _ htop
  rw [Nat.mul_add, Nat.mul_one] at this
  have e3 := Nat.mul_comm (BB ^ n) 2147483648
  omega
theorem WB.wsTake {w : World} {g : Nat} {l : List Nat} (h : WB w g l) (hl : Ws l) (k : Nat) (hk : k ≤ l.length) (hm : l.length ≤ 1000000000) : WS w (some ⟨g, 0, none⟩) g 0 l.length (l.take k) := by
  have e : (l.take k).length = k := by rw [List.length_take]; omega
  refine ⟨by omega, by omega, fun _ => rfl, (fun h => by cases h), fun _ => ⟨_, _, h⟩, fun i hi => ?_, hl.take k⟩
  rw [e] at hi
  rw [Nat.zero_add, h.cell i (by omega)]
  congr 2
  simp only [List.getD_eq_getElem?_getD]
  rw [List.getElem?_take, if_pos hi]
end Go.Proofs.YthefknoicelhaaaGreatDoor
namespace Go.Proofs.YthefknoicelhaaaGreatDoor
open Go.RowKit Nmx

def DivPost (x y la : Nat) (w : World) (e : Ending) (w' : World) : Prop := ∃ v1 v2 l1 l2, e = .returned (.tuple #[v1, v2]) ∧ WV w' v1 l1 ∧ WV w' v2 l2 ∧ wv l1 = x / y ∧ wv l2 = x % y ∧ l1.length ≤ la ∧ l2.length ≤ la ∧ Below w.heap.size w w'
theorem mul_div_cancel {a b S : Nat} (hS : 0 < S) : a * S / (b * S) = a / b ∧ a * S % (b * S) = a % b * S := ⟨Nat.mul_div_mul_right _ _ hS, Nat.mul_mod_mul_right ..⟩
section
set_option maxRecDepth 100000
set_option maxHeartbeats 4000000
theorem longDivision_at (ao : Option Addr) (g off cap : Nat) (a : List Nat) (bo : Option Addr) (g' off' cap' : Nat) (b : List Nat) (w : World) (ha : WS w ao g off cap a) (hb : WS w bo g' off' cap' b) (nb : Norm b) (hla : a.length ≤ 1000000) (hb2 : 2 ≤ b.length) (hab : b.length ≤ a.length) :
    Calls Tryz.prog 172 #[.slice ao a.length cap, .slice bo b.length cap'] w (DivPost (wv a) (wv b) a.length w) := by
  obtain ⟨n, hn⟩ : ∃ n, b.length = n + 1 := ⟨b.length - 1, by omega⟩
  obtain ⟨m, hm⟩ : ∃ m, a.length = m + (n + 1) := ⟨a.length - (n + 1), by omega⟩
  have hmn : m + (n + 1) ≤ 1000000 := by omega
  have hn1 : 1 ≤ n := by omega
  have hal := ha.le
  have ham := ha.most
  have hbl := hb.le
  have hbm := hb.most
  have hbd := hb.ad (by omega)
  subst hbd
  have hB1 : b.getD n 0 ≠ 0 := by
    have := nb.2 (b.getD n 0) (by rw [List.getLast?_eq_getElem?, hn, Nat.add_sub_cancel, List.getD_eq_getElem?_getD, List.getElem?_eq_getElem (by omega)]; rfl)
    exact this
  have hB2 := hb.ws.getD n
  rw [BB_eq] at hB2
  obtain ⟨L, hL, hL1, hL2⟩ := bitLen_two (b.getD n 0) hB1 (by omega)
  have hL32 : L < 32 := (Nat.pow_lt_pow_iff_right (by omega : 1 < 2)).1 (by omega : 2 ^ L < 2 ^ 32)
  obtain ⟨s, hs⟩ : ∃ s, s + (L + 1) = 32 := ⟨31 - L, by omega⟩
  obtain ⟨ns1, ns2⟩ := norm_shift hb.ws hn hL1 hL2 hs
  have cb := hb.at_ n (by omega)
  have hlz := Tryz.bits_LeadingZeros32 ((b.getD n 0 : Nat) : Int) w (by omega) (by omega)
  rw [Int.toNat_natCast, hL, show (32 : Int) - ((L + 1 : Nat) : Int) = (s : Int) by omega] at hlz
  have hsl1 := shiftLeft_any (some ⟨g', off', none⟩) g' off' cap' b s w hb (by omega) (by omega)
  have hsl2 := fun W (hW : Below w.heap.size w W) => shiftLeft_any ao g off cap a s W (ha.far hW) (by omega) (by omega)
  have hs32 : s < 32 := by omega
  have hpw := pow_split hs32
  have NS1 := Lib.hid ns1
  have NS2 := Lib.hid ns2
  have HPW := Lib.hid hpw
  have HM := Lib.hid hm
  have HN := Lib.hid hn
  unfold ShlPost at hsl1 hsl2
  have hsb : IntKind.u64.wrap (s : Int) = (s : Int) := by rw [IntKind.wrap_u64]; omega
  clear ha hb nb hB1 hL hL1 hL2 hL32 hs ns1 ns2 hpw
  rw [hn, hm] at *
  generalize b.getD n 0 = B1 at *
  go_enter Tryz.func172, Tryz.ntmps172
  go_wp2_with fail
  refine hlz.mono ?_
  rintro e w0 ⟨rfl, hw0⟩
  rw [hw0]
  clear hw0
  go_wp2_with fail
  refine hsl1.mono ?_
  rintro e w1 ⟨l1, rfl, hwb1, hws1, hlen1, hwv1, -, hb1⟩
  obtain ⟨sd1, sd2, sd3⟩ := shifted_div hlen1 hws1 (by rw [hwv1]; exact NS1.out) (by rw [hwv1]; exact NS2.out)
  have hD := hwb1.wsTake hws1 (n + 1) (by omega) (by omega)
  rw [hlen1] at hD
  have hdv : wv (l1.take (n + 1)) = wv b * 2 ^ s := by rw [sd1, hwv1]
  have hsz1 : w1.heap.size = w.heap.size + 1 ∨ w.heap.size < w1.heap.size := .inr (lt_of_heap hwb1)
  generalize l1.take (n + 1) = d at *
  have HD := Lib.hid hD
  have HDV := Lib.hid hdv
  have HDL := Lib.hid sd3
  have HDT := Lib.hid sd2
  have HB1 := Lib.hid hb1
  have hgd := lt_of_heap hwb1
  have hsl3 := hsl2 w1 hb1
  clear hwb1 hws1 hlen1 hwv1 sd1 sd2 sd3 hD hdv hsz1 hb1 hsl1 hsl2 hlz
  go_wp2_with fail
  refine hsl3.mono ?_
  rintro e w2 ⟨A, rfl, hwbu, hwsu, hlenu, hwvu, htopu, hb2⟩
  have HWU := Lib.hid hwbu
  have HWA := Lib.hid hwsu
  have HAL := Lib.hid hlenu
  have HAV := Lib.hid hwvu
  have HAT := Lib.hid htopu
  have HB2 := Lib.hid (HB1.out.trans (hb2.mono (by omega)))
  have HD2 := Lib.hid (HD.out.far hb2)
  have hgu := lt_of_heap hwbu
  clear hwbu hwsu hlenu hwvu htopu hb2 hsl3 HD HB1
  have hmk := mk_words (m + 1) (by omega) ((m : Int) + 1) (by omega)
  go_wp2
  have HMK := Lib.hid (WB.new w2 (List.replicate (m + 1) 0))
  have HB3 : Hid (Below w.heap.size w (w2.alloc (.cells (u32s (List.replicate (m + 1) 0)).toArray 158))) := Lib.hid (HB2.out.alloc (by omega) _)
  have HWU3 : Hid (WB (w2.alloc (.cells (u32s (List.replicate (m + 1) 0)).toArray 158)) w1.heap.size A) := Lib.hid ((Below.heap_alloc _ _ _ hgu).trans HWU.out)
  have HD3 := Lib.hid (HD2.out.far ((Below.refl _ _).alloc (Nat.le_refl _) (.cells (u32s (List.replicate (m + 1) 0)).toArray 158)))
  have HS0 : Hid (LongR A d (List.replicate (m + 1) 0) A (m + 1)) := Lib.hid (LongR.start HWA.out (by rw [HDL.out, HAL.out]; omega) (start_less (n := n) (by rw [HAL.out]; omega) HWA.out (by have h1 := HAT.out; have h2 := HPW.out.2.2; rw [show m + 1 + n = m + (n + 1) by omega]; omega) (by rw [HDV.out]; exact NS2.out)))
  generalize w2.alloc (.cells (u32s (List.replicate (m + 1) 0)).toArray 158) = w3 at *
  clear hmk HWU HB2 HD2
  generalize w1.heap.size = gu at *
  generalize w2.heap.size = gq at *
  go_loopw [12] (fun jv wr => ∃ (k : Nat) (Q U : List Nat), k ≤ m + 1 ∧ jv = .int .i64 ((k : Int) - 1) ∧ LongR A d Q U k ∧ WB wr gq Q ∧ WB wr gu U ∧ WS wr (some ⟨w.heap.size, 0, none⟩) w.heap.size 0 (n + 1 + 1) d ∧ Below w.heap.size w wr) (fun jv _ => (intOf jv + 1).toNat)
  case atStart => exact ⟨m + 1, _, A, Nat.le_refl _, by congr 1; omega, HS0.out, HMK.out, HWU3.out, HD3.out, HB3.out⟩
  case round =>
    obtain ⟨k, Q, U, hk, rfl, hlr, hwq, hwu, hwd, hbel⟩ := hrel
    have HL := Lib.hid hlr
    have HQ := Lib.hid hwq
    have HU := Lib.hid hwu
    have HDD := Lib.hid hwd
    have HBl := Lib.hid hbel
    have hql : Q.length = m + 1 := by have h1 := hlr.lenQ; rw [HDL.out, HAL.out] at h1; omega
    have hulen : U.length = m + (n + 1) + 1 := by rw [hlr.lenU, HAL.out]
    have hgql := lt_of_heap hwq
    have hgul := lt_of_heap hwu
    clear hlr hwq hwu hwd hbel HS0 HMK HWU3 HD3 HB3
    rcases k with _ | j
    · obtain ⟨e1, e2⟩ := HL.out.done
      rw [HAV.out, HDV.out, (mul_div_cancel HPW.out.2.1).1] at e1
      rw [HAV.out, HDV.out, (mul_div_cancel HPW.out.2.1).2] at e2
      have hlt : wv U < BB ^ (n + 1) := by
        have h1 := HL.out.less
        have h2 := wv_lt d HDD.out.ws
        rw [HDL.out] at h2
        rw [List.drop_zero] at h1
        omega
      have e3 := wv_split U (n + 1)
      rw [wv_drop_zero U (n + 1) hlt, Nat.mul_zero, Nat.add_zero, e2] at e3
      have hul3 : (U.take (n + 1)).length = n + 1 := by rw [List.length_take]; omega
      have HWQ : Hid (WS wr (some ⟨gq, 0, none⟩) gq 0 (m + 1) Q) := Lib.hid (by
        have h := HQ.out.wsTake HL.out.wsQ Q.length (Nat.le_refl _) (by omega)
        rw [List.take_length, hql] at h; exact h)
      have htq : ∀ W, Below wr.heap.size wr W → Calls Tryz.prog 168 #[.slice (some ⟨gq, 0, none⟩) (m + 1) (m + 1)] W fun e w' => e = .returned (.slice (some ⟨gq, 0, none⟩) (trimW Q).length (m + 1)) ∧ W = w' := fun W hW => by
        have h := trim_any (some ⟨gq, 0, none⟩) gq 0 (m + 1) Q W (HWQ.out.far hW)
        rw [hql] at h; exact h
      have hsr : ∀ W, Below wr.heap.size wr W → Calls Tryz.prog 185 #[.slice (some ⟨gu, 0, none⟩) (n + 1) (m + (n + 1) + 1), .int .u64 s] W (ShrPost (U.take (n + 1)) s W) := fun W hW => by
        have h0 := HU.out.wsTake HL.out.wsU (n + 1) (by omega) (by omega)
        rw [hulen] at h0
        have h := shiftRight_any (some ⟨gu, 0, none⟩) gu 0 (m + (n + 1) + 1) (U.take (n + 1)) s W (h0.far hW) (by omega) hs32
        rw [hul3] at h; exact h
      have E1 := Lib.hid e1
      have E3 := Lib.hid e3
      have HBW := Lib.hid HBl.out
      have HTQ := Lib.hid (trimW_wv Q)
      have HTL := Lib.hid (trimW_len Q)
      have HTW : Hid (WS wr (some ⟨gq, 0, none⟩) gq 0 (m + 1) (trimW Q)) := Lib.hid (by rw [trimW_take]; exact HWQ.out.take _)
      clear e1 e2 hlt e3 HQ HU HDD HBl HWQ HL hmn
      have HBD : Hid (Below wr.heap.size wr wr.drew) := Lib.hid (Below.refl _ _).drew
      go_wp2_with fail
      go_region_with ((first
        | (go_at_call 168; first
          | (with_reducible refine (htq _ HBD.out).mono ?_
             rintro e w4 ⟨rfl, rfl⟩)
          | (with_reducible refine htr2.mono ?_
             rintro e w4 ⟨rfl, rfl⟩))
        | (go_at_call 185
           refine (hsr _ HBD.out).mono ?_
           rintro e w5 ⟨v5, l5, rfl, hv5, hl5, hr5, hb5⟩
           have HV5 := Lib.hid (hr5 _ E3.out.symm)
           have HL5 := Lib.hid (hl5.trans hul3)
           have HB5 := Lib.hid (HBW.out.trans ((HBD.out.trans (hb5.mono (Nat.le_refl _))).mono HBW.out.size))
           have HQ5 := Lib.hid (HTW.out.far (HBD.out.trans (hb5.mono (Nat.le_refl _))))
           obtain ⟨a5, g5, o5, c5, rfl, hws5⟩ := hv5
           have htr2 := trim_any a5 g5 o5 c5 l5 w5 hws5
           have HWS5 := Lib.hid hws5
           clear hl5 hr5 hb5 hws5)))
      all_goals go_wp2_with fail
      all_goals go_ret2
      all_goals exact ⟨_, _, trimW Q, trimW l5, rfl, ⟨_, _, _, _, rfl, HQ5.out⟩, ⟨_, _, _, _, rfl, by rw [trimW_take]; exact HWS5.out.take _⟩, by rw [HTQ.out]; exact E1.out, by rw [trimW_wv]; exact HV5.out, by have := HTL.out; omega, by have := trimW_len l5; have := HL5.out; omega, HB5.out⟩
    · obtain ⟨p1, p2, p3, p4, p5, p6, p7⟩ := HL.out.window HDD.out.ws (by omega)
      have HSTEP := Lib.hid (fun u' => HL.out.step HDD.out.ws (by omega) u')
      have hqw := quotientWord_any gu (m + (n + 1) + 1 - j) (U.take j) ((U.drop j).take (d.length + 1)) (U.drop (j + d.length + 1)) (some ⟨w.heap.size, 0, none⟩) w.heap.size 0 (n + 1 + 1) d wr ⟨by rw [← p1]; exact HU.out, ⟨rfl, rfl, rfl, Nat.le_refl _, fun _ _ _ => rfl⟩⟩ HDD.out (by omega) p3 (by rw [HDL.out]; omega) (by rw [HDL.out]; omega) (by omega) p4 (by rw [HDL.out, Nat.add_sub_cancel]; exact HDT.out) (by rw [p5]; exact p6)
      rw [p2] at hqw
      have HUL := Lib.hid p3
      clear p1 p2 p3 p4 p5 p6 p7
      generalize (U.drop j).take (d.length + 1) = uW at *
      generalize U.drop (j + d.length + 1) = C' at *
      generalize U.take j = A' at *
      rw [HDL.out] at hqw
      have hqw2 : Calls Tryz.prog 184 #[.slice (some ⟨gu, j, none⟩) (j + (n + 1) + 1 - j) (m + (n + 1) + 1 - j), .slice (some ⟨w.heap.size, 0, none⟩) (n + 1) (n + 1 + 1)] wr (QWPost d uW gu A' C' wr) := by
        rw [show j + (n + 1) + 1 - j = n + 1 + 1 by omega]; exact hqw
      clear hqw
      go_wp2_with fail
      refine hqw2.mono ?_
      rintro e w5 ⟨u', rfl, hq5, hl5, hw5, hv5⟩
      have HST := Lib.hid (HSTEP.out u' (hl5.trans HUL.out) hw5 hv5)
      have HQ5 : Hid (WB w5 gq Q) := Lib.hid ((hq5.gr.block gq hgql (fun e => by injection e with e; omega)).trans HQ.out)
      have HU5 := Lib.hid hq5.wb
      have HD5 := Lib.hid (hq5.far HDD.out (by omega))
      have HB5 := Lib.hid (HBl.out.grown hq5.gr HBl.out.size (fun k hk => by injection hk with hk; omega))
      have hcq := HQ5.out.cell j (by omega)
      have hfq := HQ5.out.fz j
      clear hq5 hl5 hw5 hv5 hqw2 HSTEP HQ HU HDD HBl HL
      generalize Q.getD j 0 = q0 at *
      go_wp2
      refine ⟨⟨j, _, _, by omega, by congr 1, HST.out, HQ5.out.set j _, (Below.heap_setCell _ _ _ _ (by show gu ≠ gq; omega)).trans HU5.out, ?_, HB5.out.setCell (by show w.heap.size ≤ gq; omega) _⟩, ?_⟩
      · exact HD5.out.same fun _ => Below.heap_setCell _ _ _ _ (by show w.heap.size ≠ gq; omega)
      · simp [intOf]; try omega
end
end Go.Proofs.YthefknoicelhaaaGreatDoor
namespace Go.Proofs.YthefknoicelhaaaGreatDoor
open Go.RowKit Nmx

theorem divW_less {x y : Nat} (h : x < y) : x / y = 0 ∧ x % y = x := ⟨Nat.div_eq_of_lt h, Nat.mod_eq_of_lt h⟩
section
set_option maxRecDepth 100000
set_option maxHeartbeats 4000000
theorem divWords_one (ao : Option Addr) (g off cap : Nat) (a : List Nat) (bo : Option Addr) (g' off' cap' : Nat) (b : List Nat) (w : World) (ha : WS w ao g off cap a) (hb : WS w bo g' off' cap' b) (na : Norm a) (nb : Norm b) (hla : a.length ≤ 1000000) (hb1 : b.length = 1) (hle : wv b ≤ wv a) :
    Calls Tryz.prog 157 #[.slice ao a.length cap, .slice bo b.length cap'] w (DivPost (wv a) (wv b) a.length w) := by
  have hal := ha.le
  have ham := ha.most
  have hbl := hb.le
  have hbm := hb.most
  have hbd := hb.ad (by omega)
  subst hbd
  obtain ⟨B, rfl⟩ : ∃ B, b = [B] := by
    match b, hb1 with
    | [B], _ => exact ⟨B, rfl⟩
  have hB0 : B ≠ 0 := nb.2 B rfl
  have hB9 : B < 4294967296 := by have := hb.ws B (by simp); rwa [BB_eq] at this
  rw [wv_one] at *
  have hcmp := cmpWords_any ao g off cap a (some ⟨g', off', none⟩) g' off' cap' [B] w ha hb na nb
  rw [wv_one] at hcmp
  have hcv : ¬ cmpN (wv a) B < 0 := by
    rcases Nat.lt_or_ge B (wv a) with h | h
    · rw [cmpN_gt h]; omega
    · rw [cmpN_eq (by omega)]; omega
  generalize cmpN (wv a) B = cv at *
  have hmk := mk_words a.length (by omega) (a.length : Int) rfl
  have HNA := Lib.hid na
  have HLE := Lib.hid hle
  have HA := Lib.hid ha
  have HB := Lib.hid hb
  clear ha hb na nb hle
  rw [List.length_singleton] at *
  go_enter Tryz.func157, Tryz.ntmps157
  go_wp2_with fail
  refine hcmp.mono ?_
  rintro e w1 ⟨rfl, n1, rfl⟩
  have HST := Lib.hid (WB.new (w.drewN n1) (List.replicate a.length 0))
  have HBE : Hid (Below w.heap.size w ((w.drewN n1).alloc (.cells (u32s (List.replicate a.length 0)).toArray 158))) := Lib.hid ((below_drewN (Below.refl _ _) _).alloc (Nat.le_refl _) _)
  clear hcmp
  have HMOD : Hid (∀ r, r < B → r < 18446744073709551616) := Lib.hid (fun r h => by omega)
  have hBz : ((B : Int) == 0) = false := by simp; omega
  have HD0 : Hid (DivR a (List.replicate a.length 0) B a.length 0) := Lib.hid (DivR.start a B (by omega))
  go_wp2
  go_loopw [7, 8] (fun rv iv wr => ∃ (k rr : Nat) (q : List Nat), k ≤ a.length ∧ iv = .int .i64 ((k : Int) - 1) ∧ rv = .int .u64 rr ∧ DivR a q B k rr ∧ WB wr w.heap.size q ∧ Below w.heap.size w wr) (fun _ iv _ => (intOf iv + 1).toNat)
  case atStart => exact ⟨a.length, 0, _, Nat.le_refl _, rfl, rfl, HD0.out, HST.out, HBE.out⟩
  case round =>
    obtain ⟨k, rr, q, hk, rfl, rfl, hdv, hwb, hbel⟩ := hrel
    have HD := Lib.hid hdv
    have HW := Lib.hid hwb
    have HBl := Lib.hid hbel
    have hql := hdv.len
    have hrr : rr < B := hdv.r1
    have hrr0 : (0 : Int) ≤ (rr : Int) := by omega
    have hszl := lt_of_heap hwb
    clear hdv hwb hbel HST HBE HD0
    rcases Nat.eq_zero_or_pos k with h0 | h0
    · subst h0
      obtain ⟨d1, d2⟩ := HD.out.done
      have D1 := Lib.hid d1
      have D2 := Lib.hid d2
      have HWS : Hid (WS wr (some ⟨w.heap.size, 0, none⟩) w.heap.size 0 a.length q) := Lib.hid (by
        have h := HW.out.wsTake HD.out.ws q.length (Nat.le_refl _) (by omega)
        rw [List.take_length, hql] at h; exact h)
      have htr := trim_any (some ⟨w.heap.size, 0, none⟩) w.heap.size 0 a.length q wr HWS.out
      rw [hql] at htr
      have hwo := fun W => wordsOf_any rr W (by omega)
      clear d1 d2
      go_wp2_with fail
      refine htr.mono ?_
      rintro e w3 ⟨rfl, rfl⟩
      go_wp2_with fail
      refine (hwo _).mono ?_
      rintro e w4 ⟨v4, l4, rfl, hv4, hn4, hw4, hl4, hb4⟩
      have HWT : Hid (WS w4 (some ⟨w.heap.size, 0, none⟩) w.heap.size 0 a.length (trimW q)) := Lib.hid (by rw [trimW_take]; exact (HWS.out.far hb4).take _)
      have HLL : Hid (l4.length ≤ a.length) := Lib.hid (by
        rcases Nat.lt_or_ge a.length l4.length with h | h
        · have := norm_len_lt a l4 HNA.out hn4 h
          have := HLE.out
          omega
        · exact h)
      have HB4 := Lib.hid (HBl.out.trans (hb4.mono HBl.out.size))
      go_wp2
      go_ret2
      exact ⟨_, _, trimW q, l4, rfl, ⟨_, _, _, _, rfl, HWT.out⟩, hv4, by rw [trimW_wv]; exact D1.out, by rw [hw4]; exact D2.out, by have := trimW_len q; omega, HLL.out, HB4.out⟩
    · have had := HA.out.ad (by omega)
      subst had
      have hcl := HA.out.keep HBl.out (i := k - 1) (by omega)
      have hx := at_one (i := k - 1) HA.out.ws
      have hx0 : (0 : Int) ≤ ((a.getD (k - 1) 0 : Nat) : Int) := by omega
      have hcb := HB.out.keep HBl.out (i := 0) (by simp)
      rw [Nat.add_zero] at hcb
      have hcb' : wr.cell? ⟨g', off', none⟩ = some (.int .u32 (B : Int)) := hcb
      have HSP : Hid (∀ t, t = a.getD (k - 1) 0 + 4294967296 * rr → DivR a (q.set (k - 1) (t / B)) B (k - 1) (t % B) ∧ t / B < BB) := Lib.hid (fun t ht => by
        have h := HD.out
        rw [show k = k - 1 + 1 by omega] at h
        exact h.step HA.out.ws (by omega) t (by rw [ht, BB_eq, Nat.mul_comm rr]; omega))
      have hcq := HW.out.cell (k - 1) (by omega)
      have hfq := HW.out.fz (k - 1)
      have hor := or_word rr (a.getD (k - 1) 0) (by omega) (by omega)
      have p0 : (0 : Int) ≤ (k : Int) - 1 := by omega
      have p1 : ((k : Int) - 1).toNat = k - 1 := by omega
      have p2 : (k : Int) - 1 < (a.length : Int) := by omega
      clear hcb
      generalize a.getD (k - 1) 0 = x at *
      generalize q.getD (k - 1) 0 = z at *
      have hP1 : x + 4294967296 * rr < 18446744073709551616 := by omega
      obtain ⟨s1, s2⟩ := HSP.out _ rfl
      have S1 := Lib.hid s1
      rw [BB_eq] at s2
      clear s1 HSP
      generalize x + 4294967296 * rr = P at *
      have hP0 : (0 : Int) ≤ (P : Int) := by omega
      have hB1 : (0 : Int) ≤ (B : Int) := by omega
      have hB9i : (B : Int) ≤ 4294967295 := by omega
      have hwB : IntKind.u64.wrap (B : Int) = (B : Int) := by rw [IntKind.wrap_u64]; omega
      have e1 : (P : Int) / (B : Int) = ((P / B : Nat) : Int) := (Int.natCast_ediv P B).symm
      have e2 : (P : Int) % (B : Int) = ((P % B : Nat) : Int) := (Int.natCast_emod P B).symm
      have e3 : (P : Int).tmod (B : Int) = ((P % B : Nat) : Int) := rfl
      obtain ⟨Q, hQ⟩ : ∃ Q, P / B = Q := ⟨_, rfl⟩
      obtain ⟨R, hR⟩ : ∃ R, P % B = R := ⟨_, rfl⟩
      have hR9 : R < B := by rw [← hR]; exact Nat.mod_lt _ (by omega)
      rw [hQ] at s2 e1 S1
      rw [hR] at e2 e3 S1
      have hwq : IntKind.u64.wrap (Q : Int) = (Q : Int) := by rw [IntKind.wrap_u64]; omega
      have hwq2 : IntKind.u32.wrap (Q : Int) = (Q : Int) := by rw [IntKind.wrap_u32]; omega
      have hQ0 : (0 : Int) ≤ (Q : Int) := by omega
      have hQ9 : (Q : Int) ≤ 4294967295 := by omega
      clear hQ hR
      go_wp2
      have hne1 : ¬ g' = w.heap.size := by have := HB.out.lt (by omega); omega
      have hne2 : ¬ w.heap.size = g' := by omega
      go_region_held3 (fun w' => w'.cell? ⟨g', off', none⟩ = some (.int .u32 (B : Int))) (first | exact hcb' | go_keep) (fail)
      all_goals go_wp2
      all_goals exact ⟨⟨k - 1, R, q.set (k - 1) Q, by omega, by congr 1; omega, rfl, S1.out, HW.out.set (k - 1) Q, (HBl.out.setCell (Nat.le_refl _) _).drew⟩, by simp [intOf]; omega⟩
theorem divWords_less (ao : Option Addr) (g off cap : Nat) (a : List Nat) (bo : Option Addr) (g' off' cap' : Nat) (b : List Nat) (w : World) (ha : WS w ao g off cap a) (hb : WS w bo g' off' cap' b) (na : Norm a) (nb : Norm b) (hla : a.length ≤ 1000000) (hlt : wv a < wv b) :
    Calls Tryz.prog 157 #[.slice ao a.length cap, .slice bo b.length cap'] w (DivPost (wv a) (wv b) a.length w) := by
  have hal := ha.le
  have ham := ha.most
  have hbl := hb.le
  have hbm := hb.most
  have hcmp := cmpWords_any ao g off cap a bo g' off' cap' b w ha hb na nb
  rw [cmpN_lt hlt] at hcmp
  obtain ⟨i0, hi, hz0, hz1, hz2⟩ := info_parts infoU32
  have HW := Lib.hid ha.ws
  have HD := Lib.hid (divW_less hlt)
  by_cases hcap : 0 < cap
  · have had := ha.ad hcap
    subst had
    have HNEWS : Hid (∀ n, ∀ j u, (u32s a)[j]? = some u → (w.drewN n).cell? ((⟨g, off, none⟩ : Addr).add j) = some u) := Lib.hid (fun n => (ha.drewN n).news)
    clear ha hb na nb hlt
    go_enter Tryz.func157, Tryz.ntmps157
    go_wp2_with fail
    refine hcmp.mono ?_
    rintro e w1 ⟨rfl, n1, rfl⟩
    go_wp2_with (at_builtin; refine wpList_append_own _ rfl _ _ 145 rfl w.heap.size 158 i0 (.int .u32 0) 1 4 Tryz.underlying145 hi hz0 hz1 hz2 rfl (by decide) _ 0 [] rfl (World.ownsRow_nil _ _ _ _) ⟨g, off, none⟩ a.length cap (u32s a) rfl (by rw [u32s_len, Nat.mul_one]) (HNEWS.out n1) (u32s_one a) (by unfold maxLen; omega) (by omega) (by simp) ?_)
    intro v4 w4 hown hgrow _
    have hown2 : w4.ownsRow w.heap.size 158 1 v4 a.length (u32s a) := by simpa using hown
    have HV := Lib.hid (ownsW_ws hown2 HW.out)
    have HB4 := Lib.hid ((below_drewN (Below.refl w.heap.size w) n1).grown hgrow (by simp) (fun k hk => by cases hk))
    clear hown hown2 hgrow
    go_wp2
    go_ret2
    exact ⟨_, _, [], a, rfl, WV.nil _, HV.out, HD.out.1.symm, HD.out.2.symm, by simp, Nat.le_refl _, HB4.out⟩
  · have hal0 : a = [] := List.length_eq_zero_iff.1 (by omega)
    subst hal0
    obtain rfl : cap = 0 := by omega
    clear ha hb na nb hlt HW
    rw [List.length_nil] at *
    cases ao with
    | none =>
      go_enter Tryz.func157, Tryz.ntmps157
      go_wp2_with fail
      refine hcmp.mono ?_
      rintro e w1 ⟨rfl, n1, rfl⟩
      go_wp2_with (at_builtin; refine wpList_append_own_none rfl _ _ 145 rfl w.heap.size 158 i0 1 Tryz.underlying145 hi _ 0 [] rfl (World.ownsRow_nil _ _ _ _) rfl ?_)
      go_wp2
      go_ret2
      exact ⟨_, _, [], [], rfl, WV.nil _, WV.nil _, HD.out.1.symm, HD.out.2.symm, by simp, Nat.le_refl _, below_drewN (Below.refl w.heap.size w) n1⟩
    | some ad =>
      go_enter Tryz.func157, Tryz.ntmps157
      go_wp2_with fail
      refine hcmp.mono ?_
      rintro e w1 ⟨rfl, n1, rfl⟩
      go_wp2_with (at_builtin; refine wpList_append_own _ rfl _ _ 145 rfl w.heap.size 158 i0 (.int .u32 0) 1 4 Tryz.underlying145 hi hz0 hz1 hz2 rfl (by decide) _ 0 [] rfl (World.ownsRow_nil _ _ _ _) ad 0 0 [] rfl rfl (fun j u h => by simp at h) (fun u h => by simp at h) (by unfold maxLen; omega) (by omega) (by simp) ?_)
      intro v4 w4 hown hgrow _
      have hown2 : w4.ownsRow w.heap.size 158 1 v4 ([] : List Nat).length (u32s []) := hown
      have HV := Lib.hid (ownsW_ws hown2 Ws.nil)
      have HB4 := Lib.hid ((below_drewN (Below.refl w.heap.size w) n1).grown hgrow (by simp) (fun k hk => by cases hk))
      clear hown hown2 hgrow
      go_wp2
      go_ret2
      exact ⟨_, _, [], [], rfl, WV.nil _, HV.out, HD.out.1.symm, HD.out.2.symm, by simp, Nat.le_refl _, HB4.out⟩
theorem divWords_long (ao : Option Addr) (g off cap : Nat) (a : List Nat) (bo : Option Addr) (g' off' cap' : Nat) (b : List Nat) (w : World) (ha : WS w ao g off cap a) (hb : WS w bo g' off' cap' b) (na : Norm a) (nb : Norm b) (hla : a.length ≤ 1000000) (hb2 : 2 ≤ b.length) (hle : wv b ≤ wv a) :
    Calls Tryz.prog 157 #[.slice ao a.length cap, .slice bo b.length cap'] w (DivPost (wv a) (wv b) a.length w) := by
  have hal := ha.le
  have ham := ha.most
  have hbl := hb.le
  have hbm := hb.most
  have hcmp := cmpWords_any ao g off cap a bo g' off' cap' b w ha hb na nb
  have hcv : ¬ cmpN (wv a) (wv b) < 0 := by
    rcases Nat.lt_or_ge (wv b) (wv a) with h | h
    · rw [cmpN_gt h]; omega
    · rw [cmpN_eq (by omega)]; omega
  have hab : b.length ≤ a.length := by
    rcases Nat.lt_or_ge a.length b.length with h | h
    · have := norm_len_lt a b na nb h; omega
    · exact h
  have hld := fun n => longDivision_at ao g off cap a bo g' off' cap' b (w.drewN n) (ha.drewN n) (hb.drewN n) nb hla hb2 hab
  have hb1 : ((b.length : Int) == 1) = false := by simp; omega
  generalize cmpN (wv a) (wv b) = cv at *
  clear ha hb na nb hle
  go_enter Tryz.func157, Tryz.ntmps157
  go_wp2_with fail
  refine hcmp.mono ?_
  rintro e w1 ⟨rfl, n1, rfl⟩
  go_wp2_with fail
  refine (hld n1).mono ?_
  rintro e w2 ⟨v1, v2, l1, l2, rfl, h1, h2, h3, h4, h5, h6, hb2⟩
  have HB2 := Lib.hid ((below_drewN (Below.refl w.heap.size w) n1).trans hb2)
  clear hb2 hld hcmp
  go_wp2
  go_ret2
  exact ⟨_, _, l1, l2, rfl, h1, h2, h3, h4, h5, h6, HB2.out⟩
theorem divWords_any (x y : Value) (a b : List Nat) (w : World) (ha : WV w x a) (hb : WV w y b) (na : Norm a) (nb : Norm b) (hla : a.length ≤ 1000000) (hb0 : b ≠ []) : Calls Tryz.prog 157 #[x, y] w (DivPost (wv a) (wv b) a.length w) := by
  obtain ⟨ao, g, off, cap, rfl, h1⟩ := ha
  obtain ⟨bo, g', off', cap', rfl, h2⟩ := hb
  have hlen : 0 < b.length := List.length_pos_iff.2 hb0
  by_cases hlt : wv a < wv b
  · exact divWords_less ao g off cap a bo g' off' cap' b w h1 h2 na nb hla hlt
  · by_cases hb1 : b.length = 1
    · exact divWords_one ao g off cap a bo g' off' cap' b w h1 h2 na nb hla hb1 (by omega)
    · exact divWords_long ao g off cap a bo g' off' cap' b w h1 h2 na nb hla (by omega) (by omega)
end
end Go.Proofs.YthefknoicelhaaaGreatDoor

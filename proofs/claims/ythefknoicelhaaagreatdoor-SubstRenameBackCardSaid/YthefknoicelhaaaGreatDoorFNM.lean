/- shiftLeft, shiftRight of package exact. -/
import Derived.Test.YthefknoicelhaaaGreatDoorFNB
import Derived.Deep.CutBlock
import Derived.Deep.DeepCutAuto
namespace Go.Proofs.YthefknoicelhaaaGreatDoor
open Go.RowKit Nmx

theorem pow_split {s : Nat} (hs : s < 32) : 2 ^ s * 2 ^ (32 - s) = BB ∧ 0 < 2 ^ s ∧ 2 ^ s ≤ 2147483648 := by
  refine ⟨?_, Nat.pow_pos (by omega), ?_⟩
  · rw [← Nat.pow_add, show s + (32 - s) = 32 by omega, BB_eq]
  · have : 2 ^ s ≤ 2 ^ 31 := Nat.pow_le_pow_right (by omega) (by omega)
    omega
/-- a word shifted, and what is carried into it -/
theorem or_low {x S T c : Nat} {s : Nat} (hS : S = 2 ^ s) (hx : x < BB) (hST : S * T = BB) (hc : c < S) : bits .or .u32 ((x * S % BB : Nat) : Int) (c : Int) = ((x * S % BB + c : Nat) : Int) := by
  obtain ⟨h1, h2, h3, h4⟩ := shl_word hx hST hc
  rw [BB_eq] at h1
  rw [u32_or_nat _ _ (by rw [BB_eq]; omega) (by omega), nat_join s _ _ (by rw [h3, hS, Nat.mul_mod_left]) (by rw [← hS]; exact hc)]
theorem or_word2 (n x : Nat) (hn : n < 4294967296) (hx : x < 4294967296) : bits .or .u64 (x : Int) ((n : Int) * 4294967296) = ((x + 4294967296 * n : Nat) : Int) := by
  have e : (n : Int) * 4294967296 = ((n * 4294967296 : Nat) : Int) := by omega
  rw [e, u64_or_nat _ _ (by omega) (by omega), Nat.or_comm, nat_join 32 _ _ (by omega) (by omega)]
  omega
theorem w_sh (P S : Nat) : (P : Int) / (S : Int) % 4294967296 = ((P / S % 4294967296 : Nat) : Int) := by rw [Int.natCast_emod, Int.natCast_ediv]; rfl
def ShlPost (a : List Nat) (s : Nat) (w : World) (e : Ending) (w' : World) : Prop := ∃ l, e = .returned (.slice (some ⟨w.heap.size, 0, none⟩) (a.length + 1) (a.length + 1)) ∧ WB w' w.heap.size l ∧ Ws l ∧ l.length = a.length + 1 ∧ wv l = wv a * 2 ^ s ∧ l.getD a.length 0 < 2 ^ s ∧ Below w.heap.size w w'
section
set_option maxRecDepth 100000
set_option maxHeartbeats 4000000
theorem shiftLeft_any (ao : Option Addr) (g off cap : Nat) (a : List Nat) (s : Nat) (w : World) (ha : WS w ao g off cap a) (hla : a.length ≤ 1000001) (hs : s < 32) :
    Calls Tryz.prog 183 #[.slice ao a.length cap, .int .u64 s] w (ShlPost a s w) := by
  have hal := ha.le
  have ham := ha.most
  have HA := Lib.hid ha
  clear ha
  have hmk := mk_words (a.length + 1) (by omega) ((a.length : Int) + 1) (by omega)
  have HST := Lib.hid (WB.new w (List.replicate (a.length + 1) 0))
  have HBE : Hid (Below w.heap.size w (w.alloc (.cells (u32s (List.replicate (a.length + 1) 0)).toArray 158))) := Lib.hid ((Below.refl _ _).alloc (Nat.le_refl _) _)
  obtain ⟨p1, p2, p3⟩ := pow_split hs
  have hsh : (2 : Int) ^ s = ((2 ^ s : Nat) : Int) := by norm_cast
  have P1 := Lib.hid p1
  have HS0 : Hid (2 ^ s = 2 ^ s) := Lib.hid rfl
  generalize hS : 2 ^ s = S at *
  have HS := Lib.hid hS
  clear hS p1 HS0
  go_enter Tryz.func183, Tryz.ntmps183
  go_wp2
  go_loopw [6, 16] (fun c i wr => ∃ (k cc : Nat) (l : List Nat), k ≤ a.length ∧ i = .int .i64 k ∧ c = .int .u32 cc ∧ ShlR a l S k cc ∧ WB wr w.heap.size l ∧ Below w.heap.size w wr) (fun _ i _ => a.length - (intOf i).toNat)
  case atStart => exact ⟨0, 0, _, Nat.zero_le _, rfl, rfl, ShlR.start a S p2, HST.out, HBE.out⟩
  case round =>
    obtain ⟨k, cc, l, hk, rfl, rfl, hr, hwb, hbel⟩ := hrel
    have HR := Lib.hid hr
    have HW := Lib.hid hwb
    have HBl := Lib.hid hbel
    have hcS := hr.c1
    have hc0 : (0 : Int) ≤ (cc : Int) := by omega
    have hll := hr.len
    have hsize := hbel.size
    clear hr hwb hbel HST HBE
    have hcw := HW.out.cell k (by omega)
    have hfw := HW.out.fz k
    by_cases hlt : k < a.length
    · have had := HA.out.ad (by omega)
      subst had
      have hca := HA.out.keep HBl.out hlt
      have hx := at_one (i := k) HA.out.ws
      have hx0 : (0 : Int) ≤ ((a.getD k 0 : Nat) : Int) := by omega
      have HSP := Lib.hid (HR.out.step P1.out HA.out.ws hlt)
      have hxB := HA.out.ws.getD k
      obtain ⟨s1, s2, s3, s4⟩ := shl_word hxB P1.out hcS
      have hor := or_low HS.out.symm hxB P1.out hcS
      generalize a.getD k 0 = x at *
      generalize l.getD k 0 = z at *
      rw [BB_eq] at s4
      have hm1 : IntKind.u64.wrap ((x : Int) * (S : Int)) = ((x * S : Nat) : Int) := by rw [← Int.natCast_mul, IntKind.wrap_u64]; omega
      generalize hPe : x * S = P at *
      clear hPe s1 s2 s3
      have hP0 : (0 : Int) ≤ (P : Int) := by omega
      have hP1 : (P : Int) ≤ 18446744073709551615 := by omega
      rw [← w_mod P _ rfl] at hor
      go_wp2
      rw [w_div P _ rfl, show (P : Int) % (BB : Int) + (cc : Int) = ((P % BB + cc : Nat) : Int) from by rw [Int.natCast_add, Int.natCast_emod]]
      exact ⟨⟨k + 1, P / BB, l.set k (P % BB + cc), by omega, by go_num, rfl, HSP.out, HW.out.set k _, HBl.out.setCell (Nat.le_refl _) _⟩, by simp [intOf]; omega⟩
    · obtain rfl : k = a.length := by omega
      obtain ⟨d1, d2, d3⟩ := HR.out.done P1.out
      have D1 := Lib.hid d1
      have D2 := Lib.hid d2
      have D3 := Lib.hid d3
      have HTOP : Hid ((l.set a.length cc).getD a.length 0 < S) := Lib.hid (by rw [getD_set_same _ _ _ (by omega)]; exact hcS)
      clear d1 d2 d3
      generalize l.getD a.length 0 = z at *
      go_wp2
      go_ret
      exact ⟨_, rfl, HW.out.set a.length cc, D2.out, D3.out, by rw [HS.out]; exact D1.out, by rw [HS.out]; exact HTOP.out, HBl.out.setCell (Nat.le_refl _) _⟩
def ShrPost (a : List Nat) (s : Nat) (w : World) (e : Ending) (w' : World) : Prop := ∃ v l, e = .returned v ∧ WV w' v l ∧ l.length = a.length ∧ (∀ r, wv a = r * 2 ^ s → wv l = r) ∧ Below w.heap.size w w'
theorem shiftRight_any (ao : Option Addr) (g off cap : Nat) (a : List Nat) (s : Nat) (w : World) (ha : WS w ao g off cap a) (hla : a.length ≤ 1000001) (hs : s < 32) :
    Calls Tryz.prog 185 #[.slice ao a.length cap, .int .u64 s] w (ShrPost a s w) := by
  have hal := ha.le
  have ham := ha.most
  have HA := Lib.hid ha
  clear ha
  have hmk := mk_words a.length (by omega) (a.length : Int) rfl
  have HST := Lib.hid (WB.new w (List.replicate a.length 0))
  have HBE : Hid (Below w.heap.size w (w.alloc (.cells (u32s (List.replicate a.length 0)).toArray 158))) := Lib.hid ((Below.refl _ _).alloc (Nat.le_refl _) _)
  obtain ⟨p1, p2, p3⟩ := pow_split hs
  have hsh : (2 : Int) ^ s = ((2 ^ s : Nat) : Int) := by norm_cast
  have P1 := Lib.hid p1
  have HS0 : Hid (2 ^ s = 2 ^ s) := Lib.hid rfl
  generalize hS : 2 ^ s = S at *
  have HS := Lib.hid hS
  clear hS p1 HS0
  go_enter Tryz.func185, Tryz.ntmps185
  go_wp2
  go_loopw [13] (fun i wr => ∃ (k : Nat) (l : List Nat), k ≤ a.length ∧ i = .int .i64 k ∧ ShrR a l S k ∧ WB wr w.heap.size l ∧ Below w.heap.size w wr) (fun i _ => a.length - (intOf i).toNat)
  case atStart => exact ⟨0, _, Nat.zero_le _, rfl, ShrR.start a S, HST.out, HBE.out⟩
  case round =>
    obtain ⟨k, l, hk, rfl, hr, hwb, hbel⟩ := hrel
    have HR := Lib.hid hr
    have HW := Lib.hid hwb
    have HBl := Lib.hid hbel
    have hll := hr.len
    have hsize := hbel.size
    clear hr hwb hbel HST HBE
    by_cases hlt : k < a.length
    · have hcw := HW.out.cell k (by omega)
      have hfw := HW.out.fz k
      have had := HA.out.ad (by omega)
      subst had
      have hca := HA.out.keep HBl.out hlt
      have hx := at_one (i := k) HA.out.ws
      have hx0 : (0 : Int) ≤ ((a.getD k 0 : Nat) : Int) := by omega
      by_cases hl1 : k + 1 < a.length
      · have hca1 := HA.out.keep HBl.out hl1
        have hi1 : ((k : Int) + 1).toNat = k + 1 := by omega
        have hi2 : (k : Int) + 1 < (a.length : Int) := by omega
        have hi3 : (0 : Int) ≤ (k : Int) + 1 := by omega
        have hy := at_one (i := k + 1) HA.out.ws
        have hy0 : (0 : Int) ≤ ((a.getD (k + 1) 0 : Nat) : Int) := by omega
        have HSP := Lib.hid (HR.out.step P1.out p2 HA.out.ws hlt _ rfl)
        have hor := or_word2 (a.getD (k + 1) 0) (a.getD k 0) (by omega) (by omega)
        generalize a.getD k 0 = x at *
        generalize a.getD (k + 1) 0 = y at *
        generalize l.getD k 0 = z at *
        have hP1 : x + 4294967296 * y < 18446744073709551616 := by omega
        rw [BB_eq] at HSP
        generalize x + 4294967296 * y = P at *
        have hP0 : (0 : Int) ≤ (P : Int) := by omega
        go_wp2
        rw [w_sh P S]
        exact ⟨⟨k + 1, _, by omega, by go_num, HSP.out, HW.out.set k _, HBl.out.setCell (Nat.le_refl _) _⟩, by simp [intOf]; omega⟩
      · have hi2 : ¬ (k : Int) + 1 < (a.length : Int) := by omega
        have HSP := Lib.hid (HR.out.step P1.out p2 HA.out.ws hlt _ rfl)
        rw [getD_past hl1, Nat.mul_zero, Nat.add_zero] at HSP
        generalize a.getD k 0 = x at *
        generalize l.getD k 0 = z at *
        rw [BB_eq] at HSP
        go_wp2
        rw [w_sh x S]
        exact ⟨⟨k + 1, _, by omega, by go_num, HSP.out, HW.out.set k _, HBl.out.setCell (Nat.le_refl _) _⟩, by simp [intOf]; omega⟩
    · obtain rfl : k = a.length := by omega
      have HD : Hid (∀ r, wv a = r * S → wv l = r) := Lib.hid (fun r hr => HR.out.done r hr p2)
      go_wp2
      go_ret
      exact ⟨_, l, rfl, HW.out.ws HR.out.ws _ (by omega) (by omega), hll, by rw [HS.out]; exact HD.out, HBl.out⟩
end
end Go.Proofs.YthefknoicelhaaaGreatDoor
namespace Go.Proofs.YthefknoicelhaaaGreatDoor
open Go.RowKit Nmx

theorem mid_getD (A u C : List Nat) (i : Nat) (hi : i < u.length) : (A ++ u ++ C).getD (A.length + i) 0 = u.getD i 0 := by
  simp only [List.getD_eq_getElem?_getD]
  rw [List.append_assoc, List.getElem?_append_right (by omega), List.getElem?_append_left (by omega), show A.length + i - A.length = i by omega]
theorem mid_set (A u C : List Nat) (i x : Nat) (hi : i < u.length) : (A ++ u ++ C).set (A.length + i) x = A ++ u.set i x ++ C := by
  rw [List.append_assoc, List.set_append_right _ _ (by omega), show A.length + i - A.length = i by omega, List.set_append_left _ _ hi, List.append_assoc]
/-- what is left is the block gu, in which u lies between A and C; nothing else has changed -/
structure QW (w wr : World) (gu : Nat) (A u C : List Nat) : Prop where
  wb : WB wr gu (A ++ u ++ C)
  gr : w.grownBy wr (some gu)
theorem QW.cell {w wr : World} {gu : Nat} {A u C : List Nat} (h : QW w wr gu A u C) (i : Nat) (hi : i < u.length) : wr.cell? ⟨gu, A.length + i, none⟩ = some (.int .u32 ((u.getD i 0 : Nat) : Int)) := by
  rw [h.wb.cell _ (by simp only [List.length_append]; omega), mid_getD A u C i hi]
theorem QW.fz {w wr : World} {gu : Nat} {A u C : List Nat} (h : QW w wr gu A u C) (i : Nat) : wr.frozen? ⟨gu, A.length + i, none⟩ = false := h.wb.fz _
theorem QW.set {w wr : World} {gu : Nat} {A u C : List Nat} (h : QW w wr gu A u C) (i x : Nat) (hi : i < u.length) : QW w (wr.setCell ⟨gu, A.length + i, none⟩ (.int .u32 (x : Int))) gu A (u.set i x) C := by
  refine ⟨?_, h.gr.os, h.gr.tape, h.gr.output, by simpa [World.setCell] using h.gr.size, fun k hk hne => ?_⟩
  · rw [← mid_set A u C i x hi]; exact h.wb.set _ _
  · exact (Below.heap_setCell _ _ _ _ (fun e => hne (by rw [e]))).trans (h.gr.block k hk hne)
theorem QW.drewN {w wr : World} {gu : Nat} {A u C : List Nat} (h : QW w wr gu A u C) (n : Nat) : QW w (wr.drewN n) gu A u C := ⟨h.wb, h.gr.os, h.gr.tape, h.gr.output, h.gr.size, h.gr.block⟩
theorem QW.far {w wr : World} {gu : Nat} {A u C : List Nat} (h : QW w wr gu A u C) {ao : Option Addr} {g off cap : Nat} {d : List Nat} (hd : WS w ao g off cap d) (hne : g ≠ gu) : WS wr ao g off cap d :=
  hd.same fun hc => h.gr.block g (hd.lt hc) (fun e => hne (by injection e))
theorem QW.dcell {w wr : World} {gu : Nat} {A u C : List Nat} (h : QW w wr gu A u C) {ao : Option Addr} {g off cap : Nat} {d : List Nat} (hd : WS w ao g off cap d) (hne : g ≠ gu) (i : Nat) (hi : i < d.length) : wr.cell? ⟨g, off + i, none⟩ = some (.int .u32 ((d.getD i 0 : Nat) : Int)) :=
  (h.far hd hne).at_ i hi

def QWPost (d u : List Nat) (gu : Nat) (A C : List Nat) (w : World) (e : Ending) (w' : World) : Prop := ∃ u', e = .returned (.int .u32 ((wv u / wv d : Nat) : Int)) ∧ QW w w' gu A u' C ∧ u'.length = u.length ∧ Ws u' ∧ wv u' = wv u % wv d
/-- where the guess stands -/
structure GuessR (d u : List Nat) (q r : Nat) : Prop where
  eq : q * d.getD (d.length - 1) 0 + r = u.getD d.length 0 * BB + u.getD (d.length - 1) 0
  r1 : r < BB
  q1 : q ≤ BB + 1
  up : wv u < (q + 1) * wv d
theorem uniq {P a b x y : Nat} (ha : a < P) (hb : b < P) (h : a + P * x = b + P * y) : a = b ∧ x = y := by
  have h1 := congrArg (fun z => z % P) h
  simp only [Nat.add_mul_mod_self_left, Nat.mod_eq_of_lt ha, Nat.mod_eq_of_lt hb] at h1
  subst h1
  exact ⟨rfl, Nat.eq_of_mul_eq_mul_left (by omega) (Nat.add_left_cancel h)⟩
theorem wv_top1 (l : List Nat) (n : Nat) (hl : l.length = n + 1) : wv l = wv (l.take n) + BB ^ n * l.getD n 0 := by
  have := wv_take_getD l n
  rw [wv_take_all l (n + 1) (by omega)] at this
  exact this
theorem wv_set_top (l : List Nat) (n r : Nat) (hl : l.length = n + 1) : wv (l.set n r) = wv (l.take n) + BB ^ n * r := by
  rw [wv_top1 _ n (by rw [List.length_set, hl]), getD_set_same _ _ _ (by omega), List.take_set, List.set_eq_of_length_le (by rw [List.length_take]; omega)]
theorem lead_of {d u : List Nat} (hul : u.length = d.length + 1) (hdl : 2 ≤ d.length) (hu : Ws u) (hd : Ws d) (hhalf : 2147483648 ≤ d.getD (d.length - 1) 0) (hless : wv u < BB * wv d) :
    Lead BB (d.getD (d.length - 1) 0) (d.getD (d.length - 2) 0) (BB ^ (d.length - 2)) (wv (d.take (d.length - 2))) (wv d) (u.getD d.length 0 * BB + u.getD (d.length - 1) 0) (u.getD (d.length - 2) 0) (wv (u.take (d.length - 2))) (wv u) := by
  obtain ⟨m, hm⟩ : ∃ m, d.length = m + 2 := ⟨d.length - 2, by omega⟩
  have i1 : d.length - 1 = m + 1 := by omega
  have i2 : d.length - 2 = m := by omega
  rw [i1] at hhalf
  rw [i1, i2, hm]
  have e1 := wv_top1 d (m + 1) hm
  have e2 := wv_take_getD d m
  have e3 := wv_top1 u (m + 2) (by omega)
  have e4 := wv_take_getD u (m + 1)
  have e5 := wv_take_getD u m
  have p1 : BB ^ (m + 1) = BB ^ m * BB := Nat.pow_succ ..
  have p2 : BB ^ (m + 2) = BB ^ m * BB * BB := by rw [Nat.pow_succ, Nat.pow_succ]
  have l1 := wv_lt _ (hd.take m)
  have l2 := wv_lt _ (hu.take m)
  rw [List.length_take, Nat.min_eq_left (by omega)] at l1 l2
  refine ⟨?_, l1, ?_, l2, hd.getD _, hu.getD _, hd.getD _, by rw [BB_eq]; omega, by rw [BB_eq]; omega, hless⟩
  · rw [e1, e2, p1]; grind
  · rw [e3, e4, e5, p1, p2]; grind
theorem guess_start {d u : List Nat} (hul : u.length = d.length + 1) (hdl : 2 ≤ d.length) (hu : Ws u) (hd : Ws d) {D1 : Nat} (hD : d.getD (d.length - 1) 0 = D1) (hhalf : 2147483648 ≤ D1) (hless : wv u < BB * wv d) : ∀ top, top = u.getD (d.length - 1) 0 + 4294967296 * u.getD d.length 0 → GuessR d u (top / D1) (top % D1) := by
  intro top ht
  have hL := lead_of hul hdl hu hd (by omega) hless
  obtain ⟨s1, s2, s3, s4⟩ := hL.start
  have et : top = u.getD d.length 0 * BB + u.getD (d.length - 1) 0 := by rw [ht, BB_eq, Nat.mul_comm 4294967296]; omega
  have h1 := hL.d1_lt
  rw [hD, ← et] at s1 s2 s3 s4
  rw [hD] at h1
  exact ⟨by rw [hD, ← et]; exact s3, by omega, s2, s1⟩
/-- the guess is too great: one less -/
theorem GuessR.next {d u : List Nat} {q r : Nat} (h : GuessR d u q r) (hul : u.length = d.length + 1) (hdl : 2 ≤ d.length) (hu : Ws u) (hd : Ws d) (hhalf : 2147483648 ≤ d.getD (d.length - 1) 0) (hless : wv u < BB * wv d)
    (hc : BB ≤ q ∨ r * BB + u.getD (d.length - 2) 0 < q * d.getD (d.length - 2) 0) : 0 < q ∧ (q - 1) * d.getD (d.length - 1) 0 + (r + d.getD (d.length - 1) 0) = u.getD d.length 0 * BB + u.getD (d.length - 1) 0 ∧ wv u < (q - 1 + 1) * wv d := by
  have hL := lead_of hul hdl hu hd hhalf hless
  obtain ⟨h1, h2⟩ := hL.step h.eq hc
  refine ⟨h2, ?_, by rw [show q - 1 + 1 = q by omega]; exact h1⟩
  obtain ⟨p, rfl⟩ : ∃ p, q = p + 1 := ⟨q - 1, by omega⟩
  rw [← h.eq, show p + 1 - 1 = p by omega, Nat.add_mul]
  omega
/-- what is known of the guess behind the loop -/
structure Guessed (d u : List Nat) (q : Nat) : Prop where
  lt : q < BB
  up : wv u < (q + 1) * wv d
  low : q * wv d ≤ wv u + wv d
theorem GuessR.exit1 {d u : List Nat} {q r : Nat} (h : GuessR d u q r) (hul : u.length = d.length + 1) (hdl : 2 ≤ d.length) (hu : Ws u) (hd : Ws d) (hhalf : 2147483648 ≤ d.getD (d.length - 1) 0) (hless : wv u < BB * wv d)
    (hq : q < BB) (hc : q * d.getD (d.length - 2) 0 ≤ r * BB + u.getD (d.length - 2) 0) : Guessed d u q :=
  ⟨hq, h.up, (lead_of hul hdl hu hd hhalf hless).exit1 h.eq hq hc⟩
theorem GuessR.exit2 {d u : List Nat} {q r : Nat} (hul : u.length = d.length + 1) (hdl : 2 ≤ d.length) (hu : Ws u) (hd : Ws d) (hhalf : 2147483648 ≤ d.getD (d.length - 1) 0) (hless : wv u < BB * wv d)
    (he : q * d.getD (d.length - 1) 0 + r = u.getD d.length 0 * BB + u.getD (d.length - 1) 0) (hup : wv u < (q + 1) * wv d) (hq : q ≤ BB) (hr : BB ≤ r) : Guessed d u q := by
  have h1 := (lead_of hul hdl hu hd hhalf hless).exit2 he hq hr
  refine ⟨?_, hup, by omega⟩
  rcases Nat.lt_or_ge q BB with h | h
  · exact h
  · have : BB * wv d ≤ q * wv d := Nat.mul_le_mul_right _ h
    omega
theorem qw_ok {u d u' : List Nat} {q c k r : Nat} (h : SubMulR u d u' q d.length c k) (hul : u.length = d.length + 1) (hr : r + c + k = u.getD d.length 0) : wv (u'.set d.length r) + q * wv d = wv u := by
  have h1 := h.last hul
  rw [wv_set_top _ _ _ (by rw [h.len, hul])]
  rw [← hr] at h1
  simp only [Nat.mul_add] at *
  omega
theorem qw_neg {u d u' : List Nat} {q c k : Nat} (h : SubMulR u d u' q d.length c k) (hul : u.length = d.length + 1) (hlt : u.getD d.length 0 < c + k) : wv u < q * wv d := by
  have h1 := h.last hul
  have hX := wv_lt _ (h.ws.take d.length)
  rw [List.length_take, h.len, Nat.min_eq_left (by omega)] at hX
  have h2 : BB ^ d.length * (u.getD d.length 0 + 1) ≤ BB ^ d.length * (c + k) := Nat.mul_le_mul_left _ (by omega)
  rw [Nat.mul_add, Nat.mul_one] at h2
  omega
theorem qw_back {u d u' u3 : List Nat} {q c k t c3 : Nat} (h : SubMulR u d u' q d.length c k) (hul : u.length = d.length + 1) (hd : Ws d) (ht : t < BB) (hte : t + c + k = u.getD d.length 0 + BB) (hq : q * wv d ≤ wv u + wv d) (hb : BackR (u'.set d.length t) d u3 d.length c3) :
    wv (u3.set d.length ((t + c3) % BB)) + q * wv d = wv u + wv d := by
  have hneg := qw_neg h hul (by omega)
  have h1 := h.last hul
  have h2 := hb.val
  have hl3 : u3.length = d.length + 1 := by rw [hb.len, List.length_set, h.len, hul]
  rw [wv_take_all d _ (Nat.le_refl _), List.take_set, List.set_eq_of_length_le (by rw [List.length_take]; omega)] at h2
  have hX := wv_lt _ (hb.ws.take d.length)
  rw [List.length_take, hl3, Nat.min_eq_left (by omega)] at hX
  have hD := wv_lt _ hd
  have e1 : BB ^ d.length * (t + c + k) = BB ^ d.length * (u.getD d.length 0 + BB) := by rw [hte]
  obtain ⟨R, hR⟩ : ∃ R, R + q * wv d = wv u + wv d := ⟨wv u + wv d - q * wv d, by omega⟩
  obtain ⟨e, he⟩ : ∃ e, t + e = BB := ⟨BB - t, by omega⟩
  have e2 : BB ^ d.length * (t + e) = BB ^ d.length * BB := by rw [he]
  have h3 : wv (u3.take d.length) + BB ^ d.length * c3 = R + BB ^ d.length * e := by
    simp only [Nat.mul_add] at *
    omega
  obtain ⟨h4, h5⟩ := uniq hX (by omega) h3
  subst h5
  rw [he, Nat.mod_self, wv_set_top _ _ _ hl3, Nat.mul_zero, Nat.add_zero, h4]
  exact hR
theorem ret_u32 {a b : Nat} (h : a = b) : Ending.returned (.int .u32 (b : Int)) = .returned (.int .u32 (a : Int)) := by rw [h]
theorem sub_word2 (x y c : Nat) (hx : x < 4294967296) (hy : y < 4294967296) (hc : c ≤ 1) :
    ∃ T1 T2 : Nat, IntKind.u64.wrap ((x : Int) - (y : Int)) = T1 ∧ IntKind.u64.wrap ((T1 : Int) - (c : Int)) = T2 ∧ T1 < 18446744073709551616 ∧ T2 < 18446744073709551616 ∧ T2 / 9223372036854775808 ≤ 1 ∧ T2 % 4294967296 + y + c = x + 4294967296 * (T2 / 9223372036854775808) := by
  by_cases h1 : x < y
  · by_cases h2 : x < y + c
    · exact ⟨18446744073709551616 + x - y, 18446744073709551616 + x - y - c, by rw [IntKind.wrap_u64]; omega, by rw [IntKind.wrap_u64]; omega, by omega, by omega, by omega, by omega⟩
    · omega
  · by_cases h2 : x < y + c
    · exact ⟨x - y, 18446744073709551616 + x - y - c, by rw [IntKind.wrap_u64]; omega, by rw [IntKind.wrap_u64]; omega, by omega, by omega, by omega, by omega⟩
    · exact ⟨x - y, x - y - c, by rw [IntKind.wrap_u64]; omega, by rw [IntKind.wrap_u64]; omega, by omega, by omega, by omega, by omega⟩
section
set_option maxRecDepth 100000
set_option maxHeartbeats 4000000
theorem quotientWord_any (gu capu : Nat) (A u C : List Nat) (dao : Option Addr) (gd offd capd : Nat) (d : List Nat) (w : World) (hU : QW w w gu A u C) (hd : WS w dao gd offd capd d) (hne : gd ≠ gu) (hul : u.length = d.length + 1) (hdl : 2 ≤ d.length)
    (hcu : d.length + 1 ≤ capu) (hcm : capu ≤ 1000000000) (hu : Ws u) (hhalf : 2147483648 ≤ d.getD (d.length - 1) 0) (hless : wv u < BB * wv d) :
    Calls Tryz.prog 184 #[.slice (some ⟨gu, A.length, none⟩) (d.length + 1) capu, .slice dao d.length capd] w (QWPost d u gu A C w) := by
  have hdc := hd.le
  have hdm := hd.most
  have had := hd.ad (by omega)
  subst had
  have HD := Lib.hid hd
  have HU := Lib.hid hU
  have HNE := Lib.hid hne
  have n0 : (0 : Int) ≤ (d.length : Int) - 1 := by omega
  have n1 : ((d.length : Int) - 1).toNat = d.length - 1 := by omega
  have n2 : (0 : Int) ≤ (d.length : Int) - 2 := by omega
  have n3 : ((d.length : Int) - 2).toNat = d.length - 2 := by omega
  have n4 : (d.length : Int) - 1 < (d.length : Int) + 1 := by omega
  have n5 : (d.length : Int) - 2 < (d.length : Int) + 1 := by omega
  have n6 : (d.length : Int) < (d.length : Int) + 1 := by omega
  have cu1 := hU.cell d.length (by omega)
  have cu2 := hU.cell (d.length - 1) (by omega)
  have cd1 := hU.dcell hd hne (d.length - 1) (by omega)
  have x1 := at_one (i := d.length) hu
  have x2 := at_one (i := d.length - 1) hu
  have y1 := at_one (i := d.length - 1) hd.ws
  clear hU hd hne
  go_enter Tryz.func184, Tryz.ntmps184
  generalize hD1 : d.getD (d.length - 1) 0 = D1 at *
  have z1 : (0 : Int) ≤ ((u.getD d.length 0 : Nat) : Int) := by omega
  have z2 : (0 : Int) ≤ ((u.getD (d.length - 1) 0 : Nat) : Int) := by omega
  have hor := or_word (u.getD d.length 0) (u.getD (d.length - 1) 0) (by omega) (by omega)
  have HGE : Hid (∀ top, top = u.getD (d.length - 1) 0 + 4294967296 * u.getD d.length 0 → GuessR d u (top / D1) (top % D1)) := Lib.hid (guess_start hul hdl hu HD.out.ws hD1 hhalf hless)
  generalize u.getD d.length 0 = U1 at *
  generalize u.getD (d.length - 1) 0 = U2 at *
  have hT : U2 + 4294967296 * U1 < 18446744073709551616 := by omega
  have HG0 := Lib.hid (HGE.out _ rfl)
  generalize U2 + 4294967296 * U1 = T at *
  have t0 : (0 : Int) ≤ (T : Int) := by omega
  have d0 : (0 : Int) < (D1 : Int) := by omega
  have d00 : ((D1 : Int) == 0) = false := by simp; omega
  have hwq : IntKind.u64.wrap ((T : Int) / (D1 : Int)) = ((T / D1 : Nat) : Int) := by
    have h1 : T / D1 ≤ T := Nat.div_le_self _ _
    obtain ⟨Q, hQ⟩ : ∃ Q, T / D1 = Q := ⟨_, rfl⟩
    rw [← Int.natCast_ediv, IntKind.wrap_u64, hQ]; rw [hQ] at h1; omega
  have n7 : (d.length : Int) - 1 < (d.length : Int) := by omega
  have n8 : (d.length : Int) - 2 < (d.length : Int) := by omega
  have y2 := at_one (i := d.length - 2) HD.out.ws
  have y20 : (0 : Int) ≤ ((d.getD (d.length - 2) 0 : Nat) : Int) := by omega
  have x3 := at_one (i := d.length - 2) hu
  have x30 : (0 : Int) ≤ ((u.getD (d.length - 2) 0 : Nat) : Int) := by omega
  go_wp2
  go_quiet (fail)
  go_wp2
  go_quiet (fail)
  go_upto_block 0 with fail
  go_cut [7] (fun qv wx => ∃ q : Nat, qv = .int .u64 q ∧ Guessed d u q ∧ QW w wx gu A u C)
  case first =>
    go_wp2
    go_loopw [7, 8] (fun qv rv wr => ∃ q r : Nat, qv = .int .u64 q ∧ rv = .int .u64 r ∧ GuessR d u q r ∧ QW w wr gu A u C) (fun qv _ _ => (intOf qv).toNat)
    case atStart => exact ⟨T / D1, T % D1, rfl, rfl, HG0.out, (HU.out.drewN _).drewN _⟩
    case round =>
      obtain ⟨q, r, rfl, rfl, hg, hqw⟩ := hrel
      have cu3 := hqw.cell (d.length - 2) (by omega)
      have cd1' := hqw.dcell HD.out HNE.out (d.length - 1) (by omega)
      rw [hD1] at cd1'
      have cd2 := hqw.dcell HD.out HNE.out (d.length - 2) (by omega)
      have HG := Lib.hid hg
      have HQ := Lib.hid hqw
      have hr1 := hg.r1
      rw [BB_eq] at hr1
      have r0 : (0 : Int) ≤ (r : Int) := by omega
      have q0 : (0 : Int) ≤ (q : Int) := by omega
      have q9 : (q : Int) ≤ 4294967297 := by have := hg.q1; rw [BB_eq] at this; omega
      clear hg hqw cu1 cu2 cd1
      have hor := or_word r (u.getD (d.length - 2) 0) (by omega) (by omega)
      by_cases hqB : 4294967296 ≤ q
      · have hqb : ((q : Int) / 4294967296 != 0) = true := by simp; omega
        obtain ⟨hq0, he, hup⟩ := HG.out.next hul hdl hu HD.out.ws (by rw [hD1]; exact hhalf) hless (.inl (by rw [BB_eq]; exact hqB))
        rw [hD1] at he
        have HE := Lib.hid he
        have HUP := Lib.hid hup
        have hqs : IntKind.u64.wrap ((q : Int) - 1) = ((q - 1 : Nat) : Int) := by rw [IntKind.wrap_u64]; have := HG.out.q1; rw [BB_eq] at this; omega
        have hq1 : q ≤ BB + 1 := HG.out.q1
        clear he hup
        obtain ⟨p, hp⟩ : ∃ p, q - 1 = p := ⟨_, rfl⟩
        rw [hp] at HE HUP hqs
        by_cases hr2 : 4294967296 ≤ r + D1
        · have hrb : (((r : Int) + (D1 : Int)) / 4294967296 != 0) = true := by simp; omega
          have HX : Hid (Guessed d u p) := Lib.hid (GuessR.exit2 hul hdl hu HD.out.ws (by rw [hD1]; exact hhalf) hless (by rw [hD1]; exact HE.out) HUP.out (by omega) (by rw [BB_eq]; exact hr2))
          go_wp2
          go_quiet (fail)
          go_wp2
          go_meet
          exact ⟨p, rfl, HX.out, HQ.out.drewN _⟩
        · have hrb : (((r : Int) + (D1 : Int)) / 4294967296 != 0) = false := by simp; omega
          go_wp2
          go_quiet (fail)
          go_wp2
          exact ⟨⟨p, r + D1, rfl, rfl, ⟨by rw [hD1]; exact HE.out, by rw [BB_eq]; omega, by omega, HUP.out⟩, HQ.out.drewN _⟩, by simp [intOf]; omega⟩
      · have hqb : ((q : Int) / 4294967296 != 0) = false := by simp; omega
        have hP1 : q * d.getD (d.length - 2) 0 < 18446744073709551616 := by
          have := mul_word q (d.getD (d.length - 2) 0) 0 0 (by rw [BB_eq]; omega) (HD.out.ws.getD _) BB_pos BB_pos
          rw [BB_eq] at this; omega
        have hmul : IntKind.u64.wrap ((q : Int) * ((d.getD (d.length - 2) 0 : Nat) : Int)) = ((q * d.getD (d.length - 2) 0 : Nat) : Int) := by rw [← Int.natCast_mul, IntKind.wrap_u64]; omega
        by_cases hgt : u.getD (d.length - 2) 0 + 4294967296 * r < q * d.getD (d.length - 2) 0
        · have hgi : ((u.getD (d.length - 2) 0 + 4294967296 * r : Nat) : Int) < ((q * d.getD (d.length - 2) 0 : Nat) : Int) := by omega
          have HCD : Hid (r * BB + u.getD (d.length - 2) 0 < q * d.getD (d.length - 2) 0) := Lib.hid (by rw [BB_eq, Nat.mul_comm r]; omega)
          obtain ⟨hq0, he, hup⟩ := HG.out.next hul hdl hu HD.out.ws (by rw [hD1]; exact hhalf) hless (.inr HCD.out)
          rw [hD1] at he
          have HE := Lib.hid he
          have HUP := Lib.hid hup
          have hqs : IntKind.u64.wrap ((q : Int) - 1) = ((q - 1 : Nat) : Int) := by rw [IntKind.wrap_u64]; have := HG.out.q1; rw [BB_eq] at this; omega
          have hq1 : q ≤ BB + 1 := HG.out.q1
          clear he hup
          obtain ⟨p, hp⟩ : ∃ p, q - 1 = p := ⟨_, rfl⟩
          rw [hp] at HE HUP hqs
          clear HCD hgt
          have hP0 : (0 : Int) ≤ ((q * d.getD (d.length - 2) 0 : Nat) : Int) := by omega
          generalize d.getD (d.length - 2) 0 = D2 at *
          generalize u.getD (d.length - 2) 0 = U3 at *
          generalize q * D2 = P at *
          generalize U3 + 4294967296 * r = R at *
          by_cases hr2 : 4294967296 ≤ r + D1
          · have hrb : (((r : Int) + (D1 : Int)) / 4294967296 != 0) = true := by simp; omega
            have HX : Hid (Guessed d u p) := Lib.hid (GuessR.exit2 hul hdl hu HD.out.ws (by rw [hD1]; exact hhalf) hless (by rw [hD1]; exact HE.out) HUP.out (by omega) (by rw [BB_eq]; exact hr2))
            go_wp2
            go_quiet (fail)
            go_wp2
            go_meet
            exact ⟨p, rfl, HX.out, HQ.out.drewN _⟩
          · have hrb : (((r : Int) + (D1 : Int)) / 4294967296 != 0) = false := by simp; omega
            go_wp2
            go_quiet (fail)
            go_wp2
            exact ⟨⟨p, r + D1, rfl, rfl, ⟨by rw [hD1]; exact HE.out, by rw [BB_eq]; omega, by omega, HUP.out⟩, HQ.out.drewN _⟩, by simp [intOf]; omega⟩
        · have hgi : ¬ ((u.getD (d.length - 2) 0 + 4294967296 * r : Nat) : Int) < ((q * d.getD (d.length - 2) 0 : Nat) : Int) := by omega
          have HX : Hid (Guessed d u q) := Lib.hid (HG.out.exit1 hul hdl hu HD.out.ws (by rw [hD1]; exact hhalf) hless (by rw [BB_eq]; omega) (by rw [BB_eq, Nat.mul_comm r]; omega))
          clear hgt
          generalize d.getD (d.length - 2) 0 = D2 at *
          generalize u.getD (d.length - 2) 0 = U3 at *
          generalize q * D2 = P at *
          generalize U3 + 4294967296 * r = R at *
          go_wp2
          go_quiet (fail)
          go_wp2
          go_meet
          exact ⟨q, rfl, HX.out, HQ.out.drewN _⟩
  case rest =>
    obtain ⟨q, rfl, hgd, hqw⟩ := hcut
    have HG := Lib.hid hgd
    have HQ := Lib.hid hqw
    have hq32 : q < 4294967296 := by have := hgd.lt; rw [BB_eq] at this; exact this
    have q0 : (0 : Int) ≤ (q : Int) := by omega
    clear hgd hqw cu1 cu2 cd1 hor HG0 HGE hwq HU
    go_wp2
    go_loopw [9, 10, 86] (fun bv cv iv wr => ∃ (i c k : Nat) (u' : List Nat), i ≤ d.length ∧ iv = .int .i64 i ∧ bv = .int .u64 k ∧ cv = .int .u64 c ∧ SubMulR u d u' q i c k ∧ QW w wr gu A u' C) (fun _ _ iv _ => d.length - (intOf iv).toNat)
    case atStart => exact ⟨0, 0, 0, u, Nat.zero_le _, rfl, rfl, rfl, SubMulR.start u d q hu, HQ.out⟩
    case round =>
      obtain ⟨i, c, k, u', hi, rfl, rfl, rfl, hs, hqw⟩ := hrel
      have HS := Lib.hid hs
      have HQ2 := Lib.hid hqw
      have hc1 : c < 4294967296 := by have := hs.c1; rw [BB_eq] at this; exact this
      have hk1 := hs.k1
      have hul' : u'.length = u.length := hs.len
      have c0 : (0 : Int) ≤ (c : Int) := by omega
      have k0 : (0 : Int) ≤ (k : Int) := by omega
      clear HQ
      by_cases hlt : i < d.length
      · have cd := hqw.dcell HD.out HNE.out i hlt
        have cu := hqw.cell i (by omega)
        have cf := hqw.fz i
        have hrest := hs.rest i (Nat.le_refl _)
        rw [hrest] at cu
        have hx := HD.out.ws.getD i
        have hy := hu.getD i
        have hP1 : q * d.getD i 0 + c < 18446744073709551616 := by
          have := mul_word q (d.getD i 0) 0 c (by rw [BB_eq]; exact hq32) hx BB_pos hs.c1
          rw [BB_eq] at this; omega
        have HSP := Lib.hid (fun r k' hr hk he => hs.step HD.out.ws (by rw [BB_eq]; exact hq32) hlt (by omega) _ rfl r k' hr hk he)
        rw [BB_eq] at hx hy
        have hmul : IntKind.u64.wrap ((q : Int) * ((d.getD i 0 : Nat) : Int)) = ((q * d.getD i 0 : Nat) : Int) := by rw [← Int.natCast_mul, IntKind.wrap_u64]; omega
        clear hs hqw hrest
        generalize hye : u.getD i 0 = y at *
        generalize hxe : d.getD i 0 = x at *
        generalize hMe : q * x = M at *
        clear hye hxe hMe
        have M0 : (0 : Int) ≤ (M : Int) := by omega
        have M1 : (M : Int) + (c : Int) ≤ 18446744073709551615 := by omega
        have x0 : (0 : Int) ≤ (x : Int) := by omega
        have x9 : (x : Int) ≤ 4294967295 := by omega
        have y0 : (0 : Int) ≤ (y : Int) := by omega
        have y9 : (y : Int) ≤ 4294967295 := by omega
        obtain ⟨pm, hpm⟩ : ∃ pm, (M + c) % 4294967296 = pm := ⟨_, rfl⟩
        have hand : bits .and .u64 ((M : Int) + (c : Int)) 4294967295 = (pm : Int) := by rw [and_low32 _ (by omega) (by omega)]; omega
        have hpm9 : pm < 4294967296 := by omega
        obtain ⟨T1, T2, w1, w2, t1, t2, t3, t4⟩ := sub_word2 y pm k hy hpm9 hk1
        have HST : Hid (SubMulR u d (u'.set i (T2 % BB)) q (i + 1) ((M + c) / BB) (T2 / 9223372036854775808)) := Lib.hid (HSP.out (T2 % BB) (T2 / 9223372036854775808) (Nat.mod_lt _ BB_pos) t3 (by rw [BB_eq, hpm]; exact t4)).1
        have T10 : (0 : Int) ≤ (T1 : Int) := by omega
        have T20 : (0 : Int) ≤ (T2 : Int) := by omega
        have T29 : (T2 : Int) ≤ 18446744073709551615 := by omega
        have pm0 : (0 : Int) ≤ (pm : Int) := by omega
        clear hpm t3 t4 HSP
        go_wp2
        rw [w_63 T2 _ rfl, w_mod T2 _ rfl, w_div (M + c) _ (by omega)]
        exact ⟨⟨i + 1, (M + c) / BB, _, u'.set i (T2 % BB), by omega, by go_num, rfl, rfl, HST.out, HQ2.out.set i _ (by omega)⟩, by simp [intOf]; omega⟩
      · obtain rfl : i = d.length := by omega
        have cu := hqw.cell d.length (by omega)
        have cf := hqw.fz d.length
        have hrest := hs.rest d.length (Nat.le_refl _)
        rw [hrest] at cu
        have hy := hu.getD d.length
        rw [BB_eq] at hy
        obtain ⟨T1, T2, w1, w2, t1, t2, t3, t4⟩ := sub_word2 (u.getD d.length 0) c k hy hc1 hk1
        have HU1 : Hid (T2 % 4294967296 + c + k = u.getD d.length 0 + 4294967296 * (T2 / 9223372036854775808)) := Lib.hid t4
        have HQ3 := Lib.hid (hqw.set d.length (T2 % BB) (by omega))
        have HLE : Hid (u'.length = d.length + 1) := Lib.hid (by omega)
        clear hs hqw hrest t4
        generalize hye : u.getD d.length 0 = y at *
        have HY := Lib.hid hye
        clear hye
        have y0 : (0 : Int) ≤ (y : Int) := by omega
        have y9 : (y : Int) ≤ 4294967295 := by omega
        have T10 : (0 : Int) ≤ (T1 : Int) := by omega
        have T20 : (0 : Int) ≤ (T2 : Int) := by omega
        have T29 : (T2 : Int) ≤ 18446744073709551615 := by omega
        obtain ⟨f1, f2⟩ : (T2 / 9223372036854775808 = 0 → wv (u'.set d.length (T2 % BB)) + q * wv d = wv u) ∧ (¬ T2 / 9223372036854775808 = 0 → y < c + k) := by
          refine ⟨fun h => qw_ok HS.out hul (by rw [HY.out, BB_eq]; have := HU1.out; omega), fun h => ?_⟩
          have := HU1.out
          omega
        have F1 := Lib.hid f1
        have F2 := Lib.hid f2
        clear f1 f2
        by_cases hneg : T2 / 9223372036854775808 = 0
        · have hnb : ((T2 : Int) / 9223372036854775808 == 0) = true := by simp; omega
          have HV := Lib.hid (F1.out hneg)
          have HR : Hid (wv u / wv d = q ∧ wv (u'.set d.length (T2 % BB)) = wv u % wv d) := Lib.hid (by
            have := HV.out
            rcases guess HG.out.up HG.out.low with ⟨g1, g2, g3⟩ | ⟨g1, _⟩
            · exact ⟨g2, by omega⟩
            · omega)
          clear hneg
          go_wp2
          rw [w_mod T2 _ rfl]
          go_ret
          exact ⟨_, ret_u32 HR.out.1, HQ3.out, by rw [List.length_set]; exact hul', HS.out.ws.set _ (Nat.mod_lt _ BB_pos), HR.out.2⟩
        · have hnb : ((T2 : Int) / 9223372036854775808 == 0) = false := by simp; omega
          have hlt2 := F2.out hneg
          have hq0 : 0 < q := by
            rcases Nat.eq_zero_or_pos q with h | h
            · have h2 := qw_neg HS.out hul (by rw [HY.out]; exact hlt2)
              rw [h] at h2; omega
            · exact h
          have hqs : IntKind.u64.wrap ((q : Int) - 1) = ((q - 1 : Nat) : Int) := by rw [IntKind.wrap_u64]; omega
          have HR : Hid (wv u / wv d = q - 1 ∧ wv u % wv d + q * wv d = wv u + wv d) := Lib.hid (by
            have h2 := qw_neg HS.out hul (by rw [HY.out]; exact hlt2)
            rcases guess HG.out.up HG.out.low with ⟨g1, g2, g3⟩ | ⟨g1, g2, g3, g4⟩
            · omega
            · have := HG.out.low
              exact ⟨g3, by omega⟩)
          have HTE : Hid (T2 % BB + c + k = u.getD d.length 0 + BB) := Lib.hid (by
            rw [HY.out, BB_eq]
            have := HU1.out
            have : T2 / 9223372036854775808 = 1 := by omega
            omega)
          have HB0 : Hid (BackR (u'.set d.length (T2 % BB)) d (u'.set d.length (T2 % BB)) 0 0) := Lib.hid (BackR.start _ d (HS.out.ws.set _ (Nat.mod_lt _ BB_pos)))
          have HW2 : Hid (Ws (u'.set d.length (T2 % BB))) := Lib.hid (HS.out.ws.set _ (Nat.mod_lt _ BB_pos))
          have HG2 : Hid ((u'.set d.length (T2 % BB)).getD d.length 0 = T2 % BB) := Lib.hid (getD_set_same _ _ _ (by have := HLE.out; omega))
          have HL2 : Hid ((u'.set d.length (T2 % BB)).length = d.length + 1) := Lib.hid (by rw [List.length_set]; exact HLE.out)
          have HBK := Lib.hid (fun u3 c3 (hb : BackR (u'.set d.length (T2 % BB)) d u3 d.length c3) => qw_back HS.out hul HD.out.ws (Nat.mod_lt _ BB_pos) HTE.out HG.out.low hb)
          obtain ⟨qm, hqm⟩ : ∃ qm, q - 1 = qm := ⟨_, rfl⟩
          rw [hqm] at hqs HR
          have hqm9 : qm < 4294967296 := by omega
          have hqm0 : (0 : Int) ≤ (qm : Int) := by omega
          obtain ⟨t, htd⟩ : ∃ t, T2 % BB = t := ⟨_, rfl⟩
          have htc : (T2 : Int) % 4294967296 = (t : Int) := by rw [← htd, BB_eq]; omega
          have ht9 : t < 4294967296 := by rw [← htd, BB_eq]; omega
          rw [htd] at HQ3 HG2 HL2 HBK HB0 HW2
          generalize u'.set d.length t = u2 at *
          clear hneg F1 F2 HU1 HTE HLE htd HS HQ2 hlt2
          have hl2 := HL2.out
          go_wp2
          clear cu cf
          have HQ4 := HQ3.out
          generalize wr.setCell ⟨gu, A.length + d.length, none⟩ (.int .u32 (t : Int)) = w4 at *
          have HQ5 := Lib.hid HQ4
          clear HQ3 HQ4
          go_loopw [10, 139] (fun cv iv wr => ∃ (i c3 : Nat) (u3 : List Nat), i ≤ d.length ∧ iv = .int .i64 i ∧ cv = .int .u64 c3 ∧ BackR u2 d u3 i c3 ∧ QW w wr gu A u3 C) (fun _ iv _ => d.length - (intOf iv).toNat)
          case atStart => exact ⟨0, 0, u2, Nat.zero_le _, rfl, rfl, HB0.out, HQ5.out⟩
          case round =>
            obtain ⟨i, c3, u3, hi, rfl, rfl, hb, hqw⟩ := hrel
            have HB := Lib.hid hb
            have HQ6 := Lib.hid hqw
            have hl3 : u3.length = d.length + 1 := by rw [hb.len]; exact hl2
            have hc3 := hb.c1
            have c30 : (0 : Int) ≤ (c3 : Int) := by omega
            have hrest := hb.rest i (Nat.le_refl _)
            have cu := hqw.cell i (by omega)
            have cf := hqw.fz i
            rw [hrest] at cu
            clear HQ5 HB0
            by_cases hlt : i < d.length
            · have cd := hqw.dcell HD.out HNE.out i hlt
              have hx := at_one (i := i) HD.out.ws
              have hy := at_one (i := i) HW2.out
              have hx0 : (0 : Int) ≤ ((d.getD i 0 : Nat) : Int) := by omega
              have hy0 : (0 : Int) ≤ ((u2.getD i 0 : Nat) : Int) := by omega
              have HSP := Lib.hid (hb.step HW2.out HD.out.ws hlt (by omega) _ rfl)
              clear hb hqw hrest
              generalize d.getD i 0 = x at *
              generalize u2.getD i 0 = y at *
              go_wp2
              go_quiet (fail)
              go_wp2
              rw [w_div (y + x + c3) _ (by omega), w_mod (y + x + c3) _ (by omega)]
              exact ⟨⟨i + 1, _, u3.set i ((y + x + c3) % BB), by omega, by go_num, rfl, HSP.out, (HQ6.out.drewN _).set i _ (by omega)⟩, by simp [intOf]; omega⟩
            · obtain rfl : i = d.length := by omega
              rw [HG2.out] at cu
              have HV := Lib.hid (HBK.out u3 c3 hb)
              have hw32 : IntKind.u32.wrap ((t : Int) + (c3 : Int)) = (((t + c3) % BB : Nat) : Int) := by rw [IntKind.wrap_u32, BB_eq]; omega
              clear hb hqw hrest
              have t0 : (0 : Int) ≤ (t : Int) := by omega
              go_wp2
              go_ret
              exact ⟨_, ret_u32 HR.out.1, HQ6.out.set d.length _ (by omega), by rw [List.length_set]; omega, HB.out.ws.set _ (Nat.mod_lt _ BB_pos), Nat.add_right_cancel (HV.out.trans HR.out.2.symm)⟩
end
end Go.Proofs.YthefknoicelhaaaGreatDoor

/- Slices of words in memory; trim, wordsOf, cmpWords of package exact. -/
import Derived.Test.YtgehimcngljmnaaGreatDoorRows
import Derived.Test.YtgehimcngljmnaaGreatDoorF
import Derived.WalkKit
import Derived.WalkSpells
import Derived.WalkLawsBesides
import Derived.Deep.QuietTactic
import Derived.BigQuiet
import Derived.Lib.Hide
namespace Go.Proofs.YtgehimcngljmnaaGreatDoor
open Go.RowKit Nmx

theorem ret_int {k : IntKind} {a b : Int} (h : a = b) : Ending.returned (.int k a) = .returned (.int k b) := by rw [h]
theorem ret_bool {a b : Bool} (h : a = b) : Ending.returned (.bool a) = .returned (.bool b) := by rw [h]
theorem ret_str {a b : ByteArray} (h : a = b) : Ending.returned (.string a) = .returned (.string b) := by rw [h]

theorem ret_slice {a : Option Addr} {n m c : Nat} (h : n = m) : Ending.returned (.slice a n c) = .returned (.slice a m c) := by rw [h]

theorem ret_two {a b c d : Value} (h : a = c) (h' : b = d) : Ending.returned (.tuple #[a, b]) = .returned (.tuple #[c, d]) := by rw [h, h']

theorem bcell {W w1 : World} (hb : Below W.heap.size W w1) : (∀ b o, b < W.heap.size → w1.cell? ⟨b, o, none⟩ = W.cell? ⟨b, o, none⟩) ∧ (∀ b o, b < W.heap.size → w1.frozen? ⟨b, o, none⟩ = W.frozen? ⟨b, o, none⟩) :=
  ⟨fun b o h => hb.cell (p := ⟨b, o, none⟩) h, fun b o h => hb.frozen (p := ⟨b, o, none⟩) h⟩

/-- the slice with address ao, l's length and capacity cap reads as the words l, which lie in block g, a row of words, from off on -/
structure WS (w : World) (ao : Option Addr) (g off cap : Nat) (l : List Nat) : Prop where
  le : l.length ≤ cap
  most : cap ≤ 9223372036854775807
  ad : 0 < cap → ao = some ⟨g, off, none⟩
  nil : ao = none → cap = 0
  blk : 0 < cap → ∃ cs fr, w.heap[g]? = some (.cells cs 109 fr)
  at_ : ∀ i, i < l.length → w.cell? ⟨g, off + i, none⟩ = some (.int .u32 ((l.getD i 0 : Nat) : Int))
  ws : Ws l
theorem lt_of_heap {w : World} {g : Nat} {o : Obj} (h : w.heap[g]? = some o) : g < w.heap.size := (Array.getElem?_eq_some_iff.1 h).1
theorem WS.lt {w : World} {ao : Option Addr} {g off cap : Nat} {l : List Nat} (h : WS w ao g off cap l) (hc : 0 < cap) : g < w.heap.size := let ⟨_, _, hb⟩ := h.blk hc; lt_of_heap hb
/-- what is so wherever block g is as it was -/
theorem WS.same {w w' : World} {ao : Option Addr} {g off cap : Nat} {l : List Nat} (h : WS w ao g off cap l) (hg : 0 < cap → w'.heap[g]? = w.heap[g]?) : WS w' ao g off cap l :=
  ⟨h.le, h.most, h.ad, h.nil, fun hc => by rw [hg hc]; exact h.blk hc, fun i hi => (World.cell?_of_block (hg (by have := h.le; omega))).trans (h.at_ i hi), h.ws⟩
theorem WS.far {w w' : World} {ao : Option Addr} {g off cap : Nat} {l : List Nat} (h : WS w ao g off cap l) (hb : Below w.heap.size w w') : WS w' ao g off cap l := h.same fun hc => hb.block g (h.lt hc)
theorem WS.drewN {w : World} {ao : Option Addr} {g off cap : Nat} {l : List Nat} (h : WS w ao g off cap l) (n : Nat) : WS (w.drewN n) ao g off cap l :=
  ⟨h.le, h.most, h.ad, h.nil, h.blk, h.at_, h.ws⟩
/-- a store into a block of another type -/
theorem WS.store {w : World} {ao : Option Addr} {g off cap : Nat} {l : List Nat} (h : WS w ao g off cap l) {p : Addr} {cs : Array Value} {t : TypeId} {fr : Nat × Nat} (hp : w.heap[p.block]? = some (.cells cs t fr)) (ht : t ≠ 109) (u : Value) : WS (w.setCell p u) ao g off cap l :=
  h.same fun hc => by
    refine Below.heap_setCell w p u g (fun e => ?_)
    obtain ⟨cs', fr', hb⟩ := h.blk hc
    rw [e, hp] at hb
    cases hb; exact ht rfl
theorem WS.init {w : World} {ao : Option Addr} {g off cap : Nat} {l : List Nat} {x : Nat} (h : WS w ao g off cap (l ++ [x])) : WS w ao g off cap l :=
  ⟨by have := h.le; rw [List.length_append] at this; omega, h.most, h.ad, h.nil, h.blk,
    fun i hi => by
      have h1 := h.at_ i (by rw [List.length_append]; omega)
      have e : (l ++ [x]).getD i 0 = l.getD i 0 := by rw [List.getD_eq_getElem?_getD, List.getElem?_append_left hi, ← List.getD_eq_getElem?_getD]
      rw [e] at h1; exact h1, h.ws.left⟩
theorem WS.take {w : World} {ao : Option Addr} {g off cap : Nat} {l : List Nat} (h : WS w ao g off cap l) (n : Nat) : WS w ao g off cap (l.take n) :=
  ⟨by rw [List.length_take]; have := h.le; omega, h.most, h.ad, h.nil, h.blk,
    fun i hi => by
      rw [List.length_take] at hi
      have e : (l.take n).getD i 0 = l.getD i 0 := by rw [List.getD_eq_getElem?_getD, List.getElem?_take, if_pos (by omega), ← List.getD_eq_getElem?_getD]
      rw [e]; exact h.at_ i (by omega), h.ws.take n⟩
/-- a value that is such a slice -/
def WV (w : World) (v : Value) (l : List Nat) : Prop := ∃ ao g off cap, v = .slice ao l.length cap ∧ WS w ao g off cap l
theorem WV.far {w w' : World} {v : Value} {l : List Nat} (h : WV w v l) (hb : Below w.heap.size w w') : WV w' v l := let ⟨ao, g, off, cap, e, h⟩ := h; ⟨ao, g, off, cap, e, h.far hb⟩
theorem below_drewN {B : Nat} {a w : World} (h : Below B a w) (n : Nat) : Below B a (w.drewN n) := ⟨h.os, h.tape, h.output, h.size, h.block⟩
theorem WV.nil (w : World) : WV w (.slice none 0 0) [] := ⟨none, 0, 0, 0, rfl, ⟨Nat.le_refl _, by omega, fun h => absurd h (by omega), fun _ => rfl, fun h => absurd h (by omega), fun i hi => by simp at hi, Ws.nil⟩⟩
theorem top_getD (a b : List Nat) (hl : a.length = b.length) (ha : Ws a) (k : Nat) (hk : 0 < k) (hka : k ≤ a.length) (he : a.drop k = b.drop k) (h : a.getD (k - 1) 0 < b.getD (k - 1) 0) : wv a < wv b := by
  obtain ⟨j, rfl⟩ : ∃ j, k = j + 1 := ⟨k - 1, by omega⟩
  rw [Nat.add_sub_cancel] at h
  rw [getD_at a j (by omega), getD_at b j (by omega)] at h
  exact wv_top a b hl ha j (by omega) he h
theorem drop_getD (a b : List Nat) (hl : a.length = b.length) (k : Nat) (hk : 0 < k) (hka : k ≤ a.length) (he : a.drop k = b.drop k) (h : a.getD (k - 1) 0 = b.getD (k - 1) 0) : a.drop (k - 1) = b.drop (k - 1) := by
  obtain ⟨j, rfl⟩ : ∃ j, k = j + 1 := ⟨k - 1, by omega⟩
  rw [Nat.add_sub_cancel] at *
  rw [getD_at a j (by omega), getD_at b j (by omega)] at h
  rw [List.drop_eq_getElem_cons (by omega), List.drop_eq_getElem_cons (l := b) (by omega), h, he]

theorem trim_last {l : List Nat} {k : Nat} (hk : 0 < k) (hl : k ≤ l.length) (h0 : l.getD (k - 1) 0 = 0) : trimW (l.take k) = trimW (l.take (k - 1)) := by
  obtain ⟨j, rfl⟩ : ∃ j, k = j + 1 := ⟨k - 1, by omega⟩
  rw [Nat.add_sub_cancel] at *
  rw [List.take_succ_eq_append_getElem (by omega)]
  rw [getD_at l j (by omega)] at h0
  rw [h0, trimW_zero]
theorem trim_here {l : List Nat} {k : Nat} (hk : 0 < k) (hl : k ≤ l.length) (h0 : l.getD (k - 1) 0 ≠ 0) : trimW (l.take k) = l.take k := by
  obtain ⟨j, rfl⟩ : ∃ j, k = j + 1 := ⟨k - 1, by omega⟩
  rw [Nat.add_sub_cancel] at *
  rw [List.take_succ_eq_append_getElem (by omega)]
  rw [getD_at l j (by omega)] at h0
  rw [trimW_stop _ _ h0]

set_option maxHeartbeats 1000000 in
set_option maxRecDepth 100000 in
theorem trim_any (ao : Option Addr) (g off cap : Nat) (l : List Nat) (w : World) (h : WS w ao g off cap l) :
    Calls Tryz.prog 132 #[.slice ao l.length cap] w fun e w' => e = .returned (.slice ao (trimW l).length cap) ∧ w = w' := by
  have hle := h.le
  have hmost := h.most
  have HH := Lib.hid h
  have HT : Hid (trimW (l.take l.length) = trimW l) := Lib.hid (by rw [List.take_length])
  clear h
  go_enter Tryz.func132, Tryz.ntmps132
  go_wp2
  go_loop [0] (fun s => ∃ k : Nat, k ≤ l.length ∧ s = .slice ao k cap ∧ trimW (l.take k) = trimW l) (fun s => match s with | .slice _ n _ => n | _ => 0)
  case atStart => exact ⟨l.length, Nat.le_refl _, rfl, HT.out⟩
  case round =>
    obtain ⟨k, hk, rfl, hr⟩ := hrel
    have HR := Lib.hid hr
    clear hr
    rcases Nat.eq_zero_or_pos k with h0 | h0
    · subst h0
      go_wp2
      go_ret
      exact ⟨ret_slice (by rw [← HR.out]; rfl), rfl⟩
    · have had := HH.out.ad (by omega)
      subst had
      have hc := HH.out.at_ (k - 1) (by omega)
      have HL := Lib.hid (trim_last h0 hk)
      have HE := Lib.hid (trim_here h0 hk)
      generalize l.getD (k - 1) 0 = x at *
      by_cases hx : x = 0
      · subst hx
        have hp : (0 : Int) < (k : Int) := by omega
        have hi1 : (0 : Int) ≤ (k : Int) - 1 := by omega
        have hi2 : ((k : Int) - 1).toNat = k - 1 := by omega
        go_wp2
        go_round
        case rel => exact ⟨k - 1, by omega, by simp, by rw [← HR.out, HL.out rfl]⟩
        case measure => simp; omega
      · have hxb : ((x : Int) == 0) = false := by simp; omega
        have hp : (0 : Int) < (k : Int) := by omega
        have hi1 : (0 : Int) ≤ (k : Int) - 1 := by omega
        have hi2 : ((k : Int) - 1).toNat = k - 1 := by omega
        have HE2 := Lib.hid (HE.out hx)
        clear hx
        go_wp2
        go_ret
        exact ⟨ret_slice (by rw [← HR.out, HE2.out, List.length_take, Nat.min_eq_left hk]), rfl⟩

/-- how the words compare -/
def cmpN (a b : Nat) : Int := if a < b then -1 else if b < a then 1 else 0
theorem cmpN_lt {a b : Nat} (h : a < b) : cmpN a b = -1 := by unfold cmpN; rw [if_pos h]
theorem cmpN_gt {a b : Nat} (h : b < a) : cmpN a b = 1 := by unfold cmpN; rw [if_neg (by omega), if_pos h]
theorem cmpN_eq {a b : Nat} (h : a = b) : cmpN a b = 0 := by unfold cmpN; rw [if_neg (by omega), if_neg (by omega)]

set_option maxHeartbeats 1000000 in
set_option maxRecDepth 100000 in
theorem cmpWords_any (ao : Option Addr) (g off cap : Nat) (a : List Nat) (bo : Option Addr) (g' off' cap' : Nat) (b : List Nat) (w : World) (ha : WS w ao g off cap a) (hb : WS w bo g' off' cap' b) (na : Norm a) (nb : Norm b) :
    Calls Tryz.prog 153 #[.slice ao a.length cap, .slice bo b.length cap'] w fun e w' => e = .returned (.int .i64 (cmpN (wv a) (wv b))) ∧ ∃ n, w' = w.drewN n := by
  have hal := ha.le
  have ham := ha.most
  have hbl := hb.le
  have hbm := hb.most
  have HA := Lib.hid ha
  have HB := Lib.hid hb
  have NA := Lib.hid na
  have NB := Lib.hid nb
  clear ha hb na nb
  by_cases h1 : a.length < b.length
  · have HR := Lib.hid (cmpN_lt (norm_len_lt a b NA.out NB.out h1))
    have h1' : (a.length : Int) < (b.length : Int) := by omega
    go_enter Tryz.func153, Tryz.ntmps153
    go_wp2
    go_ret
    exact ⟨ret_int HR.out.symm, 0, rfl⟩
  · by_cases h2 : b.length < a.length
    · have HR := Lib.hid (cmpN_gt (norm_len_lt b a NB.out NA.out h2))
      have h1' : ¬ (a.length : Int) < (b.length : Int) := by omega
      have h2' : (b.length : Int) < (a.length : Int) := by omega
      go_enter Tryz.func153, Tryz.ntmps153
      go_wp2
      go_ret
      exact ⟨ret_int HR.out.symm, 0, rfl⟩
    · have hl : a.length = b.length := by omega
      have HL := Lib.hid hl
      have h1' : ¬ (a.length : Int) < (b.length : Int) := by omega
      have h2' : ¬ (b.length : Int) < (a.length : Int) := by omega
      clear hl
      go_enter Tryz.func153, Tryz.ntmps153
      go_wp2
      go_loopw [5] (fun i wr => ∃ (k n : Nat), k ≤ a.length ∧ i = .int .i64 ((k : Int) - 1) ∧ a.drop k = b.drop k ∧ wr = w.drewN n) (fun i _ => (intOf i + 1).toNat)
      case atStart => exact ⟨a.length, 0, Nat.le_refl _, rfl, by rw [List.drop_of_length_le (Nat.le_refl _), List.drop_of_length_le (by have := HL.out; omega)], rfl⟩
      case round =>
        obtain ⟨k, n, hk, rfl, hd, rfl⟩ := hrel
        have HD := Lib.hid hd
        clear hd
        rcases Nat.eq_zero_or_pos k with h0 | h0
        · subst h0
          have HR : Hid (cmpN (wv a) (wv b) = 0) := Lib.hid (cmpN_eq (by have := HD.out; rw [List.drop_zero, List.drop_zero] at this; rw [this]))
          go_wp2
          go_ret
          exact ⟨ret_int HR.out.symm, n, rfl⟩
        · have hca := HA.out.at_ (k - 1) (by omega)
          have hcb := HB.out.at_ (k - 1) (by have := HL.out; omega)
          have hda := HA.out.ad (by omega)
          have hdb := HB.out.ad (by omega)
          subst hda hdb
          have hp : (0 : Int) ≤ (k : Int) - 1 := by omega
          have hi2 : ((k : Int) - 1).toNat = k - 1 := by omega
          have hi3 : (k : Int) - 1 < (a.length : Int) := by omega
          have hi4 : (k : Int) - 1 < (b.length : Int) := by omega
          have HT1 := Lib.hid (top_getD a b HL.out NA.out.1 k h0 hk HD.out)
          have HT2 := Lib.hid (top_getD b a HL.out.symm NB.out.1 k h0 (by have := HL.out; omega) HD.out.symm)
          have HE := Lib.hid (drop_getD a b HL.out k h0 hk HD.out)
          generalize a.getD (k - 1) 0 = x at *
          generalize b.getD (k - 1) 0 = y at *
          by_cases hxy : x < y
          · have HR := Lib.hid (cmpN_lt (HT1.out hxy))
            have h3 : (x : Int) < (y : Int) := by omega
            go_wp2
            go_quiet (fail)
            go_wp2
            go_ret
            exact ⟨ret_int HR.out.symm, by simp only [World.drewN_drewN]; exact ⟨_, rfl⟩⟩
          · by_cases hyx : y < x
            · have HR := Lib.hid (cmpN_gt (HT2.out hyx))
              have h3 : ¬ (x : Int) < (y : Int) := by omega
              have h4 : (y : Int) < (x : Int) := by omega
              go_wp2
              go_quiet (fail)
              go_wp2
              go_quiet (fail)
              go_wp2
              go_ret
              exact ⟨ret_int HR.out.symm, by simp only [World.drewN_drewN]; exact ⟨_, rfl⟩⟩
            · have HR := Lib.hid (HE.out (by omega))
              have h3 : ¬ (x : Int) < (y : Int) := by omega
              have h4 : ¬ (y : Int) < (x : Int) := by omega
              go_wp2
              go_quiet (fail)
              go_wp2
              go_quiet (fail)
              go_wp2
              go_roundw
              case rel => exact ⟨k - 1, _, by omega, by congr 1; omega, HR.out, rfl⟩
              case measure => simp [intOf]; omega

/-- words as cells -/
def u32s (l : List Nat) : List Value := l.map fun n : Nat => Value.int .u32 (n : Int)
theorem u32s_at (l : List Nat) (i : Nat) (hi : i < l.length) : (u32s l)[i]? = some (.int .u32 ((l.getD i 0 : Nat) : Int)) := by simp [u32s, hi]
theorem u32s_len (l : List Nat) : (u32s l).length = l.length := by simp [u32s]
/-- words that a new block holds -/
theorem WS.new (w : World) (l : List Nat) (h : Ws l) (hl : l.length ≤ 1000000000) : WS (w.alloc (.cells (u32s l).toArray 109)) (some ⟨w.heap.size, 0, none⟩) w.heap.size 0 l.length l := by
  refine ⟨Nat.le_refl _, by omega, fun _ => rfl, (fun h => by cases h), fun _ => ⟨_, _, heap_alloc_new w _⟩, fun i hi => ?_, h⟩
  rw [cell_of_row _ _ _ _ _ _ (heap_alloc_new w _), Nat.zero_add]
  simpa using u32s_at l i hi

theorem two_words (n : Nat) (hn : n < 18446744073709551616) : n % 4294967296 < BB ∧ n / 4294967296 < BB ∧ wv [n % 4294967296, n / 4294967296] = n := by
  rw [BB_eq]
  refine ⟨Nat.mod_lt _ (by omega), by omega, ?_⟩
  simp only [wv_cons, wv_nil, BB_eq]
  omega
def WordsPost (n : Nat) (w : World) (e : Ending) (w' : World) : Prop := ∃ v l, e = .returned v ∧ WV w' v l ∧ Norm l ∧ wv l = n ∧ l.length ≤ 2 ∧ Below w.heap.size w w'
set_option maxHeartbeats 1000000 in
set_option maxRecDepth 100000 in
theorem wordsOf_any (n : Nat) (w : World) (hn : n < 18446744073709551616) :
    Calls Tryz.prog 156 #[.int .u64 n] w (WordsPost n w) := by
  rcases Nat.eq_zero_or_pos n with hz | hz
  · subst hz
    go_enter Tryz.func156, Tryz.ntmps156
    go_wp2
    go_ret
    exact ⟨_, [], rfl, WV.nil _, ⟨Ws.nil, fun x hx => by cases hx⟩, rfl, by simp, Below.refl _ _⟩
  · have hzb : ((n : Int) == 0) = false := by simp; omega
    by_cases hs : n < 4294967296
    · have hq : ((n : Int) / 4294967296 == 0) = true := by simp; omega
      go_enter Tryz.func156, Tryz.ntmps156
      go_wp2
      go_ret
      have hW : Ws [n] := Ws.cons (by rw [BB_eq]; exact hs) Ws.nil
      exact ⟨_, [n], rfl, ⟨_, _, _, _, rfl, WS.new w [n] hW (by simp)⟩, ⟨hW, fun x hx => by simp at hx; omega⟩, wv_one n, by simp, (Below.refl _ _).alloc (Nat.le_refl _) _⟩
    · have hq : ((n : Int) / 4294967296 == 0) = false := by simp; omega
      go_enter Tryz.func156, Tryz.ntmps156
      go_wp2
      go_ret
      obtain ⟨h1, h2, h3⟩ := two_words n hn
      have hW : Ws [n % 4294967296, n / 4294967296] := Ws.cons h1 (Ws.cons h2 Ws.nil)
      have e1 : (n : Int) % 4294967296 = ((n % 4294967296 : Nat) : Int) := by omega
      have e2 : (n : Int) / 4294967296 = ((n / 4294967296 : Nat) : Int) := by omega
      rw [e1, e2]
      exact ⟨_, [n % 4294967296, n / 4294967296], rfl, ⟨_, _, _, _, rfl, WS.new w _ hW (by simp)⟩, ⟨hW, fun x hx => by simp at hx; omega⟩, h3, by simp, (Below.refl _ _).alloc (Nat.le_refl _) _⟩
end Go.Proofs.YtgehimcngljmnaaGreatDoor

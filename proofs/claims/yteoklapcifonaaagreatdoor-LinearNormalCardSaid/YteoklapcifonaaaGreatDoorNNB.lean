/- Slices of words in memory; trim, wordsOf, cmpWords of package exact. -/
import Derived.Test.YteoklapcifonaaaGreatDoorRows
import Derived.Test.YteoklapcifonaaaGreatDoorNNA
import Derived.WalkKit
import Derived.WalkSpells
import Derived.WalkLawsBesides
import Derived.Deep.QuietTactic
import Derived.BigQuiet
import Derived.Lib.Hide
open Go.Lib (hid)
namespace Go.Proofs.YteoklapcifonaaaGreatDoor
open Go.RowKit Nmx
theorem bX {k : IntKind} {a b : Int} (h : a = b) : Ending.returned (.int k a) = .returned (.int k b) := by rw [h]
theorem aX {a b : Bool} (h : a = b) : Ending.returned (.bool a) = .returned (.bool b) := by rw [h]
theorem au {a b : ByteArray} (h : a = b) : Ending.returned (.string a) = .returned (.string b) := by rw [h]
theorem ret_slice {a : Option Addr} {n m c : Nat} (h : n = m) : Ending.returned (.slice a n c) = .returned (.slice a m c) := by rw [h]
theorem ret_two {a b c d : Value} (h : a = c) (h' : b = d) : Ending.returned (.tuple #[a, b]) = .returned (.tuple #[c, d]) := by rw [h, h']
theorem bcell {W w1 : World} (hb : Below W.heap.size W w1) : (∀ b o, b < W.heap.size → w1.cell? ⟨b, o, none⟩ = W.cell? ⟨b, o, none⟩) ∧ (∀ b o, b < W.heap.size → w1.frozen? ⟨b, o, none⟩ = W.frozen? ⟨b, o, none⟩) :=
 ⟨fun b o h => hb.cell (p := ⟨b, o, none⟩) h, fun b o h => hb.frozen (p := ⟨b, o, none⟩) h⟩
/-- the slice with address ao, l's length and capacity cap reads as the words l, which lie in block g, a row of words, from off on -/
structure WS (w : World) (ao : Option Addr) (g off cap : Nat) (l : List Nat) : Prop where
 le : l.length ≤ cap
 most : cap ≤ 9223372036854775807
 ad : 0 < cap → ao = some ⟨g, off, none⟩
 nil : ao = none → cap = 0
 blk : 0 < cap → ∃ cs fr, w.heap[g]? = some (.cells cs 145 fr)
 at_ : ∀ i, i < l.length → w.cell? ⟨g, off + i, none⟩ = some (.int .u32 ((l.getD i 0 : Nat) : Int))
 ws : Ws l
theorem ab {w : World} {g : Nat} {o : Obj} (h : w.heap[g]? = some o) : g < w.heap.size := (Array.getElem?_eq_some_iff.1 h).1
theorem WS.lt {w : World} {ao : Option Addr} {g off cap : Nat} {l : List Nat} (h : WS w ao g off cap l) (hc : 0 < cap) : g < w.heap.size := let ⟨_, _, hb⟩ := h.blk hc; ab hb
/-- what is so wherever block g is as it was -/
theorem WS.same {w w' : World} {ao : Option Addr} {g off cap : Nat} {l : List Nat} (h : WS w ao g off cap l) (hg : 0 < cap → w'.heap[g]? = w.heap[g]?) : WS w' ao g off cap l :=
 ⟨h.le, h.most, h.ad, h.nil, fun hc => by rw [hg hc]; exact h.blk hc, fun i hi => (World.cell?_of_block (hg (by have := h.le; omega))).trans (h.at_ i hi), h.ws⟩
theorem WS.far {w w' : World} {ao : Option Addr} {g off cap : Nat} {l : List Nat} (h : WS w ao g off cap l) (hb : Below w.heap.size w w') : WS w' ao g off cap l := h.same fun hc => hb.block g (h.lt hc)
theorem WS.drewN {w : World} {ao : Option Addr} {g off cap : Nat} {l : List Nat} (h : WS w ao g off cap l) (n : Nat) : WS (w.drewN n) ao g off cap l :=
 ⟨h.le, h.most, h.ad, h.nil, h.blk, h.at_, h.ws⟩
/-- a store into a block of another type -/
theorem WS.store {w : World} {ao : Option Addr} {g off cap : Nat} {l : List Nat} (h : WS w ao g off cap l) {p : Addr} {cs : Array Value} {t : TypeId} {fr : Nat × Nat} (hp : w.heap[p.block]? = some (.cells cs t fr)) (ht : t ≠ 145) (u : Value) : WS (w.setCell p u) ao g off cap l :=
 h.same fun hc => by
  refine Below.heap_setCell w p u g (fun e => ?_);obtain ⟨cs', fr', hb⟩ := h.blk hc;rw [e, hp] at hb;cases hb; exact ht rfl
theorem WS.take {w : World} {ao : Option Addr} {g off cap : Nat} {l : List Nat} (h : WS w ao g off cap l) (n : Nat) : WS w ao g off cap (l.take n) :=
 ⟨by rw [List.length_take]; have := h.le; omega, h.most, h.ad, h.nil, h.blk,
   fun i hi => by
    rw [List.length_take] at hi;have e : (l.take n).getD i 0 = l.getD i 0 := by rw [List.getD_eq_getElem?_getD, List.getElem?_take, if_pos (by omega), ← List.getD_eq_getElem?_getD]
    rw [e]; exact h.at_ i (by omega), h.ws.take n⟩
/-- a value that is such a slice -/
def WV (w : World) (v : Value) (l : List Nat) : Prop := ∃ ao g off cap, v = .slice ao l.length cap ∧ WS w ao g off cap l
theorem WV.far {w w' : World} {v : Value} {l : List Nat} (h : WV w v l) (hb : Below w.heap.size w w') : WV w' v l := let ⟨ao, g, off, cap, e, h⟩ := h; ⟨ao, g, off, cap, e, h.far hb⟩
theorem aw {B : Nat} {a w : World} (h : Below B a w) (n : Nat) : Below B a (w.drewN n) := ⟨h.os, h.tape, h.output, h.size, h.block⟩
theorem WV.nil (w : World) : WV w (.slice none 0 0) [] := ⟨none, 0, 0, 0, rfl, ⟨Nat.le_refl _, by omega, fun h => absurd h (by omega), fun _ => rfl, fun h => absurd h (by omega), fun i hi => by simp at hi, Ws.nil⟩⟩
theorem top_getD (a b : List Nat) (hl : a.length = b.length) (ha : Ws a) (k : Nat) (hk : 0 < k) (hka : k ≤ a.length) (he : a.drop k = b.drop k) (h : a.getD (k - 1) 0 < b.getD (k - 1) 0) : wv a < wv b := by
 obtain ⟨j, rfl⟩ : ∃ j, k = j + 1 := ⟨k - 1, by omega⟩
 rw [Nat.add_sub_cancel] at h;rw [getD_at a j (by omega), getD_at b j (by omega)] at h;exact wv_top a b hl ha j (by omega) he h
theorem drop_getD (a b : List Nat) (hl : a.length = b.length) (k : Nat) (hk : 0 < k) (hka : k ≤ a.length) (he : a.drop k = b.drop k) (h : a.getD (k - 1) 0 = b.getD (k - 1) 0) : a.drop (k - 1) = b.drop (k - 1) := by
 obtain ⟨j, rfl⟩ : ∃ j, k = j + 1 := ⟨k - 1, by omega⟩
 rw [Nat.add_sub_cancel] at *;rw [getD_at a j (by omega), getD_at b j (by omega)] at h;rw [List.drop_eq_getElem_cons (by omega), List.drop_eq_getElem_cons (l := b) (by omega), h, he]
theorem trim_last {l : List Nat} {k : Nat} (hk : 0 < k) (hl : k ≤ l.length) (h0 : l.getD (k - 1) 0 = 0) : bY (l.take k) = bY (l.take (k - 1)) := by
 obtain ⟨j, rfl⟩ : ∃ j, k = j + 1 := ⟨k - 1, by omega⟩
 rw [Nat.add_sub_cancel] at *;rw [List.take_succ_eq_append_getElem (by omega)];rw [getD_at l j (by omega)] at h0;rw [h0, trimW_zero]
theorem trim_here {l : List Nat} {k : Nat} (hk : 0 < k) (hl : k ≤ l.length) (h0 : l.getD (k - 1) 0 ≠ 0) : bY (l.take k) = l.take k := by
 obtain ⟨j, rfl⟩ : ∃ j, k = j + 1 := ⟨k - 1, by omega⟩
 rw [Nat.add_sub_cancel] at *;rw [List.take_succ_eq_append_getElem (by omega)];rw [getD_at l j (by omega)] at h0;rw [trimW_stop _ _ h0]
set_option maxHeartbeats 1000000 in
set_option maxRecDepth 100000 in
theorem trim_any (ao : Option Addr) (g off cap : Nat) (l : List Nat) (w : World) (h : WS w ao g off cap l) :
    Calls Tryz.prog 158 #[.slice ao l.length cap] w fun e w' => e = .returned (.slice ao (bY l).length cap) ∧ w = w' := by
 have hle := h.le;have hmost := h.most;have HH := hid h;have HT : Hid (bY (l.take l.length) = bY l) := hid (by rw [List.take_length]);clear h
 go_enter Tryz.func158, Tryz.ntmps158
 go_wp2
 go_loop [0] (fun s => ∃ k : Nat, k ≤ l.length ∧ s = .slice ao k cap ∧ bY (l.take k) = bY l) (fun s => match s with | .slice _ n _ => n | _ => 0)
 case atStart => exact ⟨l.length, Nat.le_refl _, rfl, HT.out⟩
 case round =>
  obtain ⟨k, hk, rfl, hr⟩ := hrel;have HR := hid hr;clear hr;rcases Nat.eq_zero_or_pos k with h0 | h0
  · subst h0
    go_wp2
    go_ret
    exact ⟨ret_slice (by rw [← HR.out]; rfl), rfl⟩
  · have had := HH.out.ad (by omega);subst had;have hc := HH.out.at_ (k - 1) (by omega);have HL := hid (trim_last h0 hk);have HE := hid (trim_here h0 hk);generalize l.getD (k - 1) 0 = x at *
    by_cases hx : x = 0
    · subst hx;have hp : (0 : Int) < (k : Int) := by omega
      have hi1 : (0 : Int) ≤ (k : Int) - 1 := by omega
      have hi2 : ((k : Int) - 1).toNat = k - 1 := by omega
      go_wp2
      go_round
      case rel => exact ⟨k - 1, by omega, by simp, by rw [← HR.out, HL.out rfl]⟩
      case measure => simp; omega
    · have hxb : ((x : Int) == 0) = false := by simp; omega
      have hp : (0 : Int) < (k : Int) := by omega
      have hi1 : (0 : Int) ≤ (k : Int) - 1 := by omega
      have hi2 : ((k : Int) - 1).toNat = k - 1 := by omega
      have HE2 := hid (HE.out hx);clear hx
      go_wp2
      go_ret
      exact ⟨ret_slice (by rw [← HR.out, HE2.out, List.length_take, Nat.min_eq_left hk]), rfl⟩
/-- how the words compare -/
def cmpN (a b : Nat) : Int := if a < b then -1 else if b < a then 1 else 0
theorem cmpN_lt {a b : Nat} (h : a < b) : cmpN a b = -1 := by unfold cmpN; rw [if_pos h]
theorem cmpN_gt {a b : Nat} (h : b < a) : cmpN a b = 1 := by unfold cmpN; rw [if_neg (by omega), if_pos h]
theorem cmpN_eq {a b : Nat} (h : a = b) : cmpN a b = 0 := by unfold cmpN; rw [if_neg (by omega), if_neg (by omega)]
set_option maxHeartbeats 1000000 in
set_option maxRecDepth 100000 in
theorem cmpWords_any (ao : Option Addr) (g off cap : Nat) (a : List Nat) (bo : Option Addr) (g' off' cap' : Nat) (b : List Nat) (w : World) (ha : WS w ao g off cap a) (hb : WS w bo g' off' cap' b) (na : Norm a) (nb : Norm b) :
    Calls Tryz.prog 161 #[.slice ao a.length cap, .slice bo b.length cap'] w fun e w' => e = .returned (.int .i64 (cmpN (wv a) (wv b))) ∧ ∃ n, w' = w.drewN n := by
 have hal := ha.le;have ham := ha.most;have hbl := hb.le;have hbm := hb.most;have HA := hid ha;have HB := hid hb;have NA := hid na;have NB := hid nb;clear ha hb na nb
 by_cases h1 : a.length < b.length
 · have HR := hid (cmpN_lt (norm_len_lt a b NA.out NB.out h1));have h1' : (a.length : Int) < (b.length : Int) := by omega
   go_enter Tryz.func161, Tryz.ntmps161
   go_wp2
   go_ret
   exact ⟨bX HR.out.symm, 0, rfl⟩
 · by_cases h2 : b.length < a.length
   · have HR := hid (cmpN_gt (norm_len_lt b a NB.out NA.out h2));have h1' : ¬ (a.length : Int) < (b.length : Int) := by omega
     have h2' : (b.length : Int) < (a.length : Int) := by omega
     go_enter Tryz.func161, Tryz.ntmps161
     go_wp2
     go_ret
     exact ⟨bX HR.out.symm, 0, rfl⟩
   · have hl : a.length = b.length := by omega
     have HL := hid hl;have h1' : ¬ (a.length : Int) < (b.length : Int) := by omega
     have h2' : ¬ (b.length : Int) < (a.length : Int) := by omega
     clear hl
     go_enter Tryz.func161, Tryz.ntmps161
     go_wp2
     go_loopw [5] (fun i wr => ∃ (k n : Nat), k ≤ a.length ∧ i = .int .i64 ((k : Int) - 1) ∧ a.drop k = b.drop k ∧ wr = w.drewN n) (fun i _ => (intOf i + 1).toNat)
     case atStart => exact ⟨a.length, 0, Nat.le_refl _, rfl, by rw [List.drop_of_length_le (Nat.le_refl _), List.drop_of_length_le (by have := HL.out; omega)], rfl⟩
     case round =>
      obtain ⟨k, n, hk, rfl, hd, rfl⟩ := hrel;have HD := hid hd;clear hd;rcases Nat.eq_zero_or_pos k with h0 | h0
      · subst h0;have HR : Hid (cmpN (wv a) (wv b) = 0) := hid (cmpN_eq (by have := HD.out; rw [List.drop_zero, List.drop_zero] at this; rw [this]))
        go_wp2
        go_ret
        exact ⟨bX HR.out.symm, n, rfl⟩
      · have hca := HA.out.at_ (k - 1) (by omega);have hcb := HB.out.at_ (k - 1) (by have := HL.out; omega);have hda := HA.out.ad (by omega);have hdb := HB.out.ad (by omega);subst hda hdb;have hp : (0 : Int) ≤ (k : Int) - 1 := by omega
        have hi2 : ((k : Int) - 1).toNat = k - 1 := by omega
        have hi3 : (k : Int) - 1 < (a.length : Int) := by omega
        have hi4 : (k : Int) - 1 < (b.length : Int) := by omega
        have HT1 := hid (top_getD a b HL.out NA.out.1 k h0 hk HD.out);have HT2 := hid (top_getD b a HL.out.symm NB.out.1 k h0 (by have := HL.out; omega) HD.out.symm);have HE := hid (drop_getD a b HL.out k h0 hk HD.out);generalize a.getD (k - 1) 0 = x at *;generalize b.getD (k - 1) 0 = y at *
        by_cases hxy : x < y
        · have HR := hid (cmpN_lt (HT1.out hxy));have h3 : (x : Int) < (y : Int) := by omega
          go_wp2
          go_quiet (fail)
          go_wp2
          go_ret
          exact ⟨bX HR.out.symm, by simp only [World.drewN_drewN]; exact ⟨_, rfl⟩⟩
        · by_cases hyx : y < x
          · have HR := hid (cmpN_gt (HT2.out hyx));have h3 : ¬ (x : Int) < (y : Int) := by omega
            have h4 : (y : Int) < (x : Int) := by omega
            go_wp2
            go_quiet (fail)
            go_wp2
            go_quiet (fail)
            go_wp2
            go_ret
            exact ⟨bX HR.out.symm, by simp only [World.drewN_drewN]; exact ⟨_, rfl⟩⟩
          · have HR := hid (HE.out (by omega));have h3 : ¬ (x : Int) < (y : Int) := by omega
            have h4 : ¬ (y : Int) < (x : Int) := by omega
            go_wp2
            go_quiet (fail)
            go_wp2
            go_quiet (fail)
            go_wp2
            go_roundw
            case rel => exact ⟨k - 1, _, by omega, by congr 1; omega, HR.out, rfl⟩
            case measure => simp [intOf]; omega
/-- words as cells -/
def bj (l : List Nat) : List Value := l.map fun n : Nat => Value.int .u32 (n : Int)
theorem u32s_at (l : List Nat) (i : Nat) (hi : i < l.length) : (bj l)[i]? = some (.int .u32 ((l.getD i 0 : Nat) : Int)) := by simp [bj, hi]
theorem u32s_len (l : List Nat) : (bj l).length = l.length := by simp [bj]
/-- words that a new block holds -/
theorem WS.new (w : World) (l : List Nat) (h : Ws l) (hl : l.length ≤ 1000000000) : WS (w.alloc (.cells (bj l).toArray 145)) (some ⟨w.heap.size, 0, none⟩) w.heap.size 0 l.length l := by
 refine ⟨Nat.le_refl _, by omega, fun _ => rfl, (fun h => by cases h), fun _ => ⟨_, _, heap_alloc_new w _⟩, fun i hi => ?_, h⟩;rw [cell_of_row _ _ _ _ _ _ (heap_alloc_new w _), Nat.zero_add]
 simpa using u32s_at l i hi
theorem two_words (n : Nat) (hn : n < 18446744073709551616) : n % 4294967296 < BB ∧ n / 4294967296 < BB ∧ wv [n % 4294967296, n / 4294967296] = n := by
 rw [aC];refine ⟨Nat.mod_lt _ (by omega), by omega, ?_⟩;simp only [wv_cons, bZ, aC]
 omega
def WordsPost (n : Nat) (w : World) (e : Ending) (w' : World) : Prop := ∃ v l, e = .returned v ∧ WV w' v l ∧ Norm l ∧ wv l = n ∧ l.length ≤ 2 ∧ Below w.heap.size w w'
set_option maxHeartbeats 1000000 in
set_option maxRecDepth 100000 in
theorem wordsOf_any (n : Nat) (w : World) (hn : n < 18446744073709551616) :
    Calls Tryz.prog 170 #[.int .u64 n] w (WordsPost n w) := by
 rcases Nat.eq_zero_or_pos n with hz | hz
 · subst hz
   go_enter Tryz.func170, Tryz.ntmps170
   go_wp2
   go_ret
   exact ⟨_, [], rfl, WV.nil _, ⟨Ws.nil, fun x hx => by cases hx⟩, rfl, by simp, Below.refl _ _⟩
 · have hzb : ((n : Int) == 0) = false := by simp; omega
   by_cases hs : n < 4294967296
   · have hq : ((n : Int) / 4294967296 == 0) = true := by simp; omega
     go_enter Tryz.func170, Tryz.ntmps170
     go_wp2
     go_ret
     have hW : Ws [n] := Ws.cons (by rw [aC]; exact hs) Ws.nil;exact ⟨_, [n], rfl, ⟨_, _, _, _, rfl, WS.new w [n] hW (by simp)⟩, ⟨hW, fun x hx => by simp at hx; omega⟩, wv_one n, by simp, (Below.refl _ _).alloc (Nat.le_refl _) _⟩
   · have hq : ((n : Int) / 4294967296 == 0) = false := by simp; omega
     go_enter Tryz.func170, Tryz.ntmps170
     go_wp2
     go_ret
     obtain ⟨h1, h2, h3⟩ := two_words n hn;have hW : Ws [n % 4294967296, n / 4294967296] := Ws.cons h1 (Ws.cons h2 Ws.nil);have e1 : (n : Int) % 4294967296 = ((n % 4294967296 : Nat) : Int) := by omega
     have e2 : (n : Int) / 4294967296 = ((n / 4294967296 : Nat) : Int) := by omega
     rw [e1, e2];exact ⟨_, [n % 4294967296, n / 4294967296], rfl, ⟨_, _, _, _, rfl, WS.new w _ hW (by simp)⟩, ⟨hW, fun x hx => by simp at hx; omega⟩, h3, by simp, (Below.refl _ _).alloc (Nat.le_refl _) _⟩
end Go.Proofs.YteoklapcifonaaaGreatDoor
namespace Go.Proofs.YteoklapcifonaaaGreatDoor
open Go.RowKit Nmx
section
set_option maxRecDepth 100000
/-- a world in which the integer in block R has turned -/
def set3 (w : World) (R : Nat) (x y z : Value) : World := ((w.setCell ⟨R, 0, none⟩ x).setCell ⟨R, 1, none⟩ y).setCell ⟨R, 2, none⟩ z
end
def bT (z : Int) : Value := .agg #[.int .i64 z, .bool false, .slice none 0 0]
def bigV (b : Bool) (ao : Option Addr) (n cap : Nat) : Value := .agg #[.int .i64 0, .bool b, .slice ao n cap]
/-- small enough for one machine word, as package exact has it -/
def Small (z : Int) : Prop := -9223372036854775807 ≤ z ∧ z ≤ 9223372036854775807
/-- rows of words that are too big for that -/
def Big (l : List Nat) : Prop := Norm l ∧ ¬ Small (wv l) ∧ l.length ≤ 1000000
/-- the value reads as the integer z -/
def IV (w : World) (v : Value) (z : Int) : Prop :=
 (v = bT z ∧ Small z) ∨ ∃ b g off cap l, v = bigV b (some ⟨g, off, none⟩) l.length cap ∧ WS w (some ⟨g, off, none⟩) g off cap l ∧ Big l ∧ z = sgn b (wv l)
instance smallDec (z : Int) : Decidable (Small z) := inferInstanceAs (Decidable (_ ∧ _))
theorem IV.far {w w' : World} {v : Value} {z : Int} (h : IV w v z) (hb : Below w.heap.size w w') : IV w' v z := by
 rcases h with h | ⟨b, g, off, cap, l, h1, h2, h3, h4⟩
 · exact .inl h
 · exact .inr ⟨b, g, off, cap, l, h1, h2.far hb, h3, h4⟩
theorem Big.pos {l : List Nat} (h : Big l) : 0 < wv l ∧ 1 < wv l := by
 have := h.2.1;unfold Small at this
 omega
theorem big_sgn {b : Bool} {l : List Nat} (h : Big l) : ¬ Small (sgn b (wv l)) ∧ (sgn b (wv l) < 0 ↔ b = true) := by
 have h1 := h.2.1;have h2 := h.pos;unfold Small sgn at *;cases b <;> simp <;> omega
theorem bJ (w : World) {z : Int} (h : Small z) : IV w (bT z) z := .inl ⟨rfl, h⟩
/-- -1, 0 or 1 -/
def bc (z : Int) : Int := if z < 0 then -1 else if 0 < z then 1 else 0
section
set_option maxRecDepth 100000
set_option maxHeartbeats 1000000
theorem mag_neq (w : World) (a : Addr) (n c : Nat) : (binOp .neq 81 (.slice (some a) n c) (.slice none 0 0)).run Tryz.prog w = .ok (.bool true) w := run_neq_slice_nil_any w _ _ (some a) n c 0 0 Tryz.underlying81
theorem mag_neq0 (w : World) : (binOp .neq 81 (.slice none 0 0) (.slice none 0 0)).run Tryz.prog w = .ok (.bool false) w := run_neq_slice_nil_any w _ _ none 0 0 0 0 Tryz.underlying81
theorem mag_eql (w : World) (a : Addr) (n c : Nat) : (binOp .eql 81 (.slice (some a) n c) (.slice none 0 0)).run Tryz.prog w = .ok (.bool false) w := Lib.run_eql_slice_nil w _ _ (some a) n c 0 0 Tryz.underlying81
theorem mag_eql0 (w : World) : (binOp .eql 81 (.slice none 0 0) (.slice none 0 0)).run Tryz.prog w = .ok (.bool true) w := Lib.run_eql_slice_nil w _ _ none 0 0 0 0 Tryz.underlying81
theorem sign_any (v : Value) (z : Int) (w : World) (h : IV w v z) :
    Calls Tryz.prog 113 #[v] w fun e w' => e = .returned (.int .i64 (bc z)) ∧ Below w.heap.size w w' := by
 have kq := mag_neq;have kq0 := mag_neq0;rcases h with ⟨rfl, hs⟩ | ⟨b, g, off, cap, l, rfl, hw, hl, rfl⟩
 · unfold bT
   go_enter Tryz.func113, Tryz.ntmps113
   go_wp2
   all_goals go_ret
   all_goals exact ⟨bX (by unfold bc; grind), (Below.refl _ _).alloc (Nat.le_refl _) _⟩
 · have hsg := (big_sgn (b := b) hl).2;have hz : ¬ sgn b (wv l) = 0 := fun e => (big_sgn (b := b) hl).1 (by rw [e]; unfold Small; omega)
   unfold bigV;cases b
   · have HR : Hid (bc (sgn false (wv l)) = 1) := hid (by unfold bc; grind);clear hsg hz
     go_enter Tryz.func113, Tryz.ntmps113
     go_wp2
     go_ret
     exact ⟨bX HR.out.symm, (Below.refl _ _).alloc (Nat.le_refl _) _⟩
   · have HR : Hid (bc (sgn true (wv l)) = -1) := hid (by unfold bc; grind);clear hsg hz
     go_enter Tryz.func113, Tryz.ntmps113
     go_wp2
     go_ret
     exact ⟨bX HR.out.symm, (Below.refl _ _).alloc (Nat.le_refl _) _⟩
theorem isZero_any (v : Value) (z : Int) (w : World) (h : IV w v z) :
    Calls Tryz.prog 115 #[v] w fun e w' => e = .returned (.bool (decide (z = 0))) ∧ Below w.heap.size w w' := by
 have kq := mag_eql;have kq0 := mag_eql0;rcases h with ⟨rfl, hs⟩ | ⟨b, g, off, cap, l, rfl, hw, hl, rfl⟩
 · unfold bT
   go_enter Tryz.func115, Tryz.ntmps115
   go_wp2
   go_ret
   exact ⟨aX (by rw [Bool.eq_iff_iff]; simp), (Below.refl _ _).alloc (Nat.le_refl _) _⟩
 · have hn := (big_sgn (b := b) hl).1;have HR : Hid (decide (sgn b (wv l) = 0) = false) := hid (decide_eq_false fun e => hn (by rw [e]; unfold Small; omega));clear hn;unfold bigV
   go_enter Tryz.func115, Tryz.ntmps115
   go_wp2
   go_ret
   exact ⟨aX HR.out.symm, (Below.refl _ _).alloc (Nat.le_refl _) _⟩
theorem isOne_any (v : Value) (z : Int) (w : World) (h : IV w v z) :
    Calls Tryz.prog 114 #[v] w fun e w' => e = .returned (.bool (decide (z = 1))) ∧ Below w.heap.size w w' := by
 have kq := mag_eql;have kq0 := mag_eql0;rcases h with ⟨rfl, hs⟩ | ⟨b, g, off, cap, l, rfl, hw, hl, rfl⟩
 · unfold bT
   go_enter Tryz.func114, Tryz.ntmps114
   go_wp2
   go_ret
   exact ⟨aX (by rw [Bool.eq_iff_iff]; simp), (Below.refl _ _).alloc (Nat.le_refl _) _⟩
 · have hn := (big_sgn (b := b) hl).1;have HR : Hid (decide (sgn b (wv l) = 1) = false) := hid (decide_eq_false fun e => hn (by rw [e]; unfold Small; omega));clear hn;unfold bigV
   go_enter Tryz.func114, Tryz.ntmps114
   go_wp2
   go_ret
   exact ⟨aX HR.out.symm, (Below.refl _ _).alloc (Nat.le_refl _) _⟩
/-- a value that reads as z, and nothing else has changed -/
def aY (z : Int) (w : World) (e : Ending) (w' : World) : Prop := ∃ v, e = .returned v ∧ IV w' v z ∧ Below w.heap.size w w'
theorem neg_small {z : Int} (h : Small z) : Small (-z) := by unfold Small at *; omega
theorem sgn_neg (b : Bool) (n : Nat) : sgn (!b) n = -sgn b n := by cases b <;> simp [sgn]
theorem neg_any (v : Value) (z : Int) (w : World) (h : IV w v z) : Calls Tryz.prog 150 #[v] w (aY (-z) w) := by
 have kq := mag_eql;have kq0 := mag_eql0;rcases h with ⟨rfl, hs⟩ | ⟨b, g, off, cap, l, rfl, hw, hl, rfl⟩
 · have h1 : -9223372036854775807 ≤ z := hs.1;have h2 : z ≤ 9223372036854775807 := hs.2;unfold bT
   go_enter Tryz.func150, Tryz.ntmps150
   go_wp2
   exact bodyPost_ret (v := bT (-z)) (by simp [results, Tryz.results150, go_sem, bT]) rfl ⟨_, rfl, bJ _ (neg_small hs), ((Below.refl _ _).alloc (Nat.le_refl _) _).alloc (by simp) _⟩
 · unfold bigV
   go_enter Tryz.func150, Tryz.ntmps150
   go_wp2
   have hbl : Below w.heap.size w ((w.alloc (.cells #[.int .i64 0, .bool b, .slice (some ⟨g, off, none⟩) l.length cap] 83)).alloc (.cells #[.int .i64 0, .bool !b, .slice (some ⟨g, off, none⟩) l.length cap] 83)) :=
    ((Below.refl _ _).alloc (Nat.le_refl _) _).alloc (by simp) _
   exact bodyPost_ret (v := bigV (!b) (some ⟨g, off, none⟩) l.length cap) (by simp [results, Tryz.results150, go_sem, bigV]) rfl
    ⟨_, rfl, .inr ⟨!b, g, off, cap, l, rfl, hw.far hbl, hl, (sgn_neg b _).symm⟩, hbl⟩
theorem IV.alloc_of {w : World} {v : Value} {z : Int} (h : IV w v z) (o : Obj) : IV (w.alloc o) v z := h.far ((Below.refl _ _).alloc (Nat.le_refl _) _)
theorem IV.store {w : World} {v : Value} {z : Int} (h : IV w v z) {p : Addr} {cs : Array Value} {t : TypeId} {fr : Nat × Nat} (hp : w.heap[p.block]? = some (.cells cs t fr)) (ht : t ≠ 145) (u : Value) : IV (w.setCell p u) v z := by
 rcases h with h | ⟨b, g, off, cap, l, h1, h2, h3, h4⟩
 · exact .inl h
 · exact .inr ⟨b, g, off, cap, l, h1, h2.store hp ht u, h3, h4⟩
theorem av {w : World} {R : Nat} {cs : Array Value} {t : TypeId} {fr : Nat × Nat} (h : w.heap[R]? = some (.cells cs t fr)) (i : Nat) (u : Value) : (w.setCell ⟨R, i, none⟩ u).heap[R]? = some (.cells (cs.setIfInBounds i u) t fr) := by
 simp [World.setCell, Array.getElem?_modify, h]
theorem aa {w : World} {R : Nat} {cs : Array Value} {t : TypeId} {fr : Nat × Nat} (h : w.heap[R]? = some (.cells cs t fr)) (i : Nat) : w.cell? ⟨R, i, none⟩ = cs[i]? := cell_of_row w R i cs t fr h
theorem ah {w : World} {R : Nat} {cs : Array Value} {t : TypeId} (h : w.heap[R]? = some (.cells cs t (0, 0))) (i : Nat) : w.frozen? ⟨R, i, none⟩ = false := by simp [World.frozen?, h]
/-- a value as the cells that hold it -/
theorem ae {w : World} {v : Value} {z : Int} (h : IV w v z) : ∃ s b ao n c, v = .agg #[.int .i64 s, .bool b, .slice ao n c] := by
 rcases h with ⟨rfl, _⟩ | ⟨b, g, off, cap, l, rfl, _⟩
 · exact ⟨_, _, _, _, _, rfl⟩
 · exact ⟨_, _, _, _, _, rfl⟩
theorem IV.set3 {w : World} {v : Value} {z : Int} (h : IV w v z) {R : Nat} {cs : Array Value} (hR : w.heap[R]? = some (.cells cs 83 (0, 0))) (x y u : Value) : IV (set3 w R x y u) v z :=
 ((h.store (p := ⟨R, 0, none⟩) hR (by decide) x).store (p := ⟨R, 1, none⟩) (av hR 0 x) (by decide) y).store (p := ⟨R, 2, none⟩) (av (av hR 0 x) 1 y) (by decide) u
theorem bC (w : World) (o o' : Obj) : ((w.alloc o).alloc o').heap[w.heap.size + 1]? = some o' := by
 have := heap_alloc_new (w.alloc o) o'
 simpa using this
theorem end_int {fn : Func} {t : Tmp} {a : Act} {w w2 : World} {R : Nat} {z s : Int} {b : Bool} {ao : Option Addr} {n c : Nat} {x0 x1 x2 : Value} (hres : fn.results = #[.cell t 83]) (hd : a.defers = []) (ht : a.tmps.getD t undef = .pointer (some ⟨R, 0, none⟩))
    (hR : w2.heap[R]? = some (.cells #[x0, x1, x2] 83 (0, 0))) (hv : IV w2 (.agg #[.int .i64 s, .bool b, .slice ao n c]) z) (hb : Below w.heap.size w w2) (hRB : w.heap.size ≤ R) :
    bodyPost Tryz.prog fn (aY z w) .ret a (((w2.setCell ⟨R, 0, none⟩ (.int .i64 s)).setCell ⟨R, 1, none⟩ (.bool b)).setCell ⟨R, 2, none⟩ (.slice ao n c)) := by
 have h3 := av (av (av hR 0 (.int .i64 s)) 1 (.bool b)) 2 (.slice ao n c);have k0 := aa h3 0;have k1 := aa h3 1;have k2 := aa h3 2;have hiv := hv.set3 hR (.int .i64 s) (.bool b) (.slice ao n c);have hbl := ((hb.setCell (show w.heap.size ≤ (⟨R, 0, none⟩ : Addr).block from hRB) (.int .i64 s)).setCell (show w.heap.size ≤ (⟨R, 1, none⟩ : Addr).block from hRB) (.bool b)).setCell (show w.heap.size ≤ (⟨R, 2, none⟩ : Addr).block from hRB) (.slice ao n c);unfold set3 at hiv;generalize ((w2.setCell ⟨R, 0, none⟩ (.int .i64 s)).setCell ⟨R, 1, none⟩ (.bool b)).setCell ⟨R, 2, none⟩ (.slice ao n c) = w3 at *;simp only [Array.setIfInBounds, Array.set, List.set, Array.size, List.length] at k0 k1 k2
 simp at k0 k1 k2
 refine bodyPost_ret (v := .agg #[.int .i64 s, .bool b, .slice ao n c]) ?_ hd ⟨_, rfl, hiv, hbl⟩;have ht' : a.tmps[t]?.getD undef = .pointer (some ⟨R, 0, none⟩) := by simpa using ht
 simp [results, hres, go_sem, ht', k0, k1, k2]
theorem min_words : wv [0, 2147483648] = 9223372036854775808 := by rw [wv_cons, wv_cons, bZ, aC]
theorem min_sgn : sgn true (wv [0, 2147483648]) = -9223372036854775808 := by rw [min_words]; rfl
theorem min_big : Big [0, 2147483648] := by
 refine ⟨⟨Ws.cons aO (Ws.cons (by rw [aC]; omega) Ws.nil), fun x hx => by simp at hx; omega⟩, ?_, by simp⟩;rw [min_words]; unfold Small; omega
theorem fromInt64_any (z : Int) (w : World) (h1 : -9223372036854775808 ≤ z) (h2 : z ≤ 9223372036854775807) :
    Calls Tryz.prog 102 #[.int .i64 z] w (aY z w) := by
 by_cases hz : z = -9223372036854775808
 · have hzb : (z == -9223372036854775808) = true := by simp [hz]
   have HZ := hid hz;clear hz
   go_enter Tryz.func102, Tryz.ntmps102
   go_wp2
   have hbl : Below w.heap.size w ((w.alloc (.cells #[.int .i64 0, .bool true, .slice (some ⟨w.heap.size + 1, 0, none⟩) 2 2] 83)).alloc (.cells #[.int .u32 0, .int .u32 2147483648] 145)) :=
    ((Below.refl _ _).alloc (Nat.le_refl _) _).alloc (by simp) _
   have hws := WS.new (w.alloc (.cells #[.int .i64 0, .bool true, .slice (some ⟨w.heap.size + 1, 0, none⟩) 2 2] 83)) [0, 2147483648] min_big.1.1 (by simp)
   exact bodyPost_ret (v := bigV true (some ⟨w.heap.size + 1, 0, none⟩) 2 2) (by simp [results, Tryz.results102, go_sem, bigV]) rfl
    ⟨_, rfl, .inr ⟨true, w.heap.size + 1, 0, 2, [0, 2147483648], rfl, by simpa [bj] using hws, min_big, by rw [HZ.out, min_sgn]⟩, hbl⟩
 · have hzb : (z == -9223372036854775808) = false := by simp [hz]
   have hs : Small z := by unfold Small; omega
   clear hz
   go_enter Tryz.func102, Tryz.ntmps102
   go_wp2
   exact bodyPost_ret (v := bT z) (by simp [results, Tryz.results102, go_sem, bT]) rfl ⟨_, rfl, bJ _ hs, (Below.refl _ _).alloc (Nat.le_refl _) _⟩
theorem abs_any (v : Value) (z : Int) (w : World) (h : IV w v z) : Calls Tryz.prog 154 #[v] w (aY z.natAbs w) := by
 have hsg := fun (o o' : Obj) => sign_any v z ((w.alloc o).alloc o') ((h.alloc_of o).alloc_of o')
 have hng := fun (w' : World) (hb : Below w.heap.size w w') => neg_any v z w' (h.far hb)
 have HH := hid h;obtain ⟨s, b, ao, n, c, rfl⟩ := ae h;clear h
 by_cases hz : z < 0
 · have h1 : bc z = -1 := by unfold bc; rw [if_pos hz]
   rw [h1] at hsg;have HZ : Hid (-z = (z.natAbs : Int)) := hid (by omega);clear h1
   go_enter Tryz.func154, Tryz.ntmps154
   go_wp2_with fail
   refine (hsg _ _).mono ?_;rintro e w1 ⟨rfl, hb⟩;obtain ⟨hc, hf⟩ := bcell hb;have hz : w.heap.size + 1 < w1.heap.size := by have := hb.size; simp at this; omega
   have HB := hid (((Below.refl w.heap.size w).alloc (Nat.le_refl _) _).alloc (by simp) _ |>.trans (hb.mono (by simp; omega)));have HR := hid ((hb.block (w.heap.size + 1) (by simp)).trans (bC w _ _));clear hb
   go_wp2_with fail
   refine (hng _ HB.out).mono ?_;rintro e w2 ⟨v2, rfl, hv2, hb2⟩;have HV2 := hid hv2;obtain ⟨s2, b2, a2, n2, c2, rfl⟩ := ae hv2;obtain ⟨hc2, hf2⟩ := bcell hb2;have HB2 := hid (HB.out.trans (hb2.mono HB.out.size));have HR2 := hid ((hb2.block (w.heap.size + 1) hz).trans HR.out);clear hb2 hv2
   go_wp2
   rw [← HZ.out];exact end_int Tryz.results154 rfl rfl HR2.out HV2.out HB2.out (by omega)
 · have h1 : ¬ bc z < 0 := by unfold bc; grind
   have HZ : Hid (z = (z.natAbs : Int)) := hid (by omega)
   go_enter Tryz.func154, Tryz.ntmps154
   go_wp2_with fail
   refine (hsg _ _).mono ?_;rintro e w1 ⟨rfl, hb⟩;obtain ⟨hc, hf⟩ := bcell hb;have hz : w.heap.size + 1 < w1.heap.size := by have := hb.size; simp at this; omega
   have HB := hid (((Below.refl w.heap.size w).alloc (Nat.le_refl _) _).alloc (by simp) _ |>.trans (hb.mono (by simp; omega)));have HR := hid ((hb.block (w.heap.size + 1) (by simp)).trans (bC w _ _));clear hb
   go_wp2
   rw [← HZ.out];exact end_int Tryz.results154 rfl rfl HR.out (HH.out.far HB.out) HB.out (by omega)
def PartsPost (z : Int) (w : World) (e : Ending) (w' : World) : Prop :=
 ∃ v l, e = .returned (.tuple #[.bool (decide (z < 0)), v]) ∧ WV w' v l ∧ Norm l ∧ wv l = z.natAbs ∧ l.length ≤ 1000000 ∧ Below w.heap.size w w'
theorem parts_any (v : Value) (z : Int) (w : World) (h : IV w v z) : Calls Tryz.prog 147 #[v] w (PartsPost z w) := by
 have kq := mag_neq;have kq0 := mag_neq0;rcases h with ⟨rfl, hs⟩ | ⟨b, g, off, cap, l, rfl, hw, hl, rfl⟩
 · have h1 : -9223372036854775807 ≤ z := hs.1;have h2 : z ≤ 9223372036854775807 := hs.2;have hwo := fun o : Obj => wordsOf_any z.natAbs (w.alloc o) (by omega)
   unfold bT
   by_cases hz : z < 0
   · have e1 : (-z : Int) = (z.natAbs : Int) := by omega
     have HE := hid e1;clear e1;have hd : decide (z < 0) = true := by simpa using hz
     go_enter Tryz.func147, Tryz.ntmps147
     have hwo2 : ∀ o : Obj, Calls Tryz.prog 170 #[.int .u64 (-z)] (w.alloc o) (WordsPost z.natAbs (w.alloc o)) := fun o => by rw [HE.out]; exact hwo o
     go_wp2_with fail
     refine (hwo2 _).mono ?_;rintro e w' ⟨v, l, rfl, hwv, hn, hv, hlen, hb⟩
     go_wp2
     go_ret2
     exact ⟨_, l, ret_two (congrArg Value.bool hd.symm) rfl, hwv, hn, hv, by omega, ((Below.refl _ _).alloc (Nat.le_refl _) _).trans (hb.mono (by simp))⟩
   · have e1 : (z : Int) = (z.natAbs : Int) := by omega
     have HE := hid e1;clear e1;have hd : decide (z < 0) = false := by simpa using hz
     have hz0 : 0 ≤ z := by omega
     have hwo2 : ∀ o : Obj, Calls Tryz.prog 170 #[.int .u64 z] (w.alloc o) (WordsPost z.natAbs (w.alloc o)) := fun o => by
      have := hwo o;rw [← HE.out] at this; exact this
     go_enter Tryz.func147, Tryz.ntmps147
     go_wp2_with fail
     refine (hwo2 _).mono ?_;rintro e w' ⟨v, l, rfl, hwv, hn, hv, hlen, hb⟩
     go_wp2
     go_ret2
     exact ⟨_, l, ret_two (congrArg Value.bool hd.symm) rfl, hwv, hn, hv, by omega, ((Below.refl _ _).alloc (Nat.le_refl _) _).trans (hb.mono (by simp))⟩
 · have hsg := (big_sgn (b := b) hl).2;have hd : decide (sgn b (wv l) < 0) = b := by cases b <;> simp [hsg]
   have HD := hid hd;have habs : (sgn b (wv l)).natAbs = wv l := by cases b <;> simp [sgn]
   have HA := hid habs;clear hsg hd habs;unfold bigV
   go_enter Tryz.func147, Tryz.ntmps147
   go_wp2
   go_quiet (fail)
   go_wp2
   go_ret2
   have hbl : Below w.heap.size w ((w.alloc (.cells #[.int .i64 0, .bool b, .slice (some ⟨g, off, none⟩) l.length cap] 83))) := (Below.refl _ _).alloc (Nat.le_refl _) _;exact ⟨_, l, ret_two (congrArg Value.bool HD.out.symm) rfl, ⟨_, g, off, cap, rfl, (hw.far hbl).drewN _⟩, hl.1, HA.out.symm, hl.2.2, aw hbl _⟩
end
end Go.Proofs.YteoklapcifonaaaGreatDoor
namespace Go.Proofs.YteoklapcifonaaaGreatDoor
open Go.RowKit Nmx
theorem or_word (n x : Nat) (hn : n < 4294967296) (hx : x < 4294967296) : bits .or .u64 ((n : Int) * 4294967296) (x : Int) = ((x + 4294967296 * n : Nat) : Int) := by
 have e : (n : Int) * 4294967296 = ((n * 4294967296 : Nat) : Int) := by omega
 rw [e, u64_or_nat _ _ (by omega) (by omega), nat_join 32 _ _ (by omega) (by omega)]
 omega
theorem word_drop {t : List Nat} (ht : Ws t) (h2 : t.length ≤ 2) {k : Nat} (hk : 0 < k) (hl : k ≤ t.length) : wv (t.drop k) < 4294967296 ∧ t.getD (k - 1) 0 < 4294967296 ∧ wv (t.drop (k - 1)) = t.getD (k - 1) 0 + 4294967296 * wv (t.drop k) := by
 have h1 := wv_lt _ (ht.drop k);have h3 := ht.getD (k - 1);have h4 := bP t (k - 1) (by omega);rw [show k - 1 + 1 = k by omega] at h4;have h5 : BB ^ (t.drop k).length ≤ BB ^ 1 := Nat.pow_le_pow_right aO (by rw [List.length_drop]; omega);rw [Nat.pow_one] at h5;rw [aC] at *;exact ⟨by omega, h3, h4⟩
theorem two_lt {t : List Nat} (ht : Ws t) (h2 : t.length ≤ 2) : wv t < 18446744073709551616 := by
 have h1 := wv_lt _ ht;have h5 : BB ^ t.length ≤ BB ^ 2 := Nat.pow_le_pow_right aO h2;rw [aC] at *
 omega
theorem three_ge {t : List Nat} (ht : Norm t) (h2 : 2 < t.length) : ¬ Small (wv t) := by
 have h1 := norm_pos t ht (fun e => by subst e; simp at h2);have h5 : BB ^ 2 ≤ BB ^ (t.length - 1) := Nat.pow_le_pow_right aO (by omega);rw [aC] at *;unfold Small
 omega
theorem sgn_true (n : Nat) : sgn true n = -(n : Int) := rfl
theorem sgn_false (n : Nat) : sgn false n = (n : Int) := rfl
theorem sgn_small {b : Bool} {n : Nat} (h : n ≤ 9223372036854775807) : Small (sgn b n) := by unfold Small; cases b <;> simp [sgn] <;> omega
section
set_option maxRecDepth 100000
set_option maxHeartbeats 2000000
theorem bF (neg : Bool) (v : Value) (l : List Nat) (w : World) (h : WV w v l) (hl : l.length ≤ 1000000) : Calls Tryz.prog 148 #[.bool neg, v] w (aY (sgn neg (wv l)) w) := by
 obtain ⟨ao, g, off, cap, rfl, hw⟩ := h;have htr := fun o : Obj => trim_any ao g off cap l (w.alloc o) (hw.far ((Below.refl _ _).alloc (Nat.le_refl _) _))
 have htn := trimW_norm l hw.ws;have hwv := trimW_wv l;have htl := trimW_len l;have hW : WS w ao g off cap (bY l) := by rw [trimW_take]; exact hw.take _
 rw [← hwv];clear hwv;have hcap := hw.most;have hle := hw.le;clear hw;generalize bY l = t at *;have HW := hid hW;have HN := hid htn;clear hW htn
 by_cases h2 : t.length ≤ 2
 · have hlt := two_lt HN.out.1 h2;have HLT := hid hlt;clear hlt
   go_enter Tryz.func148, Tryz.ntmps148
   go_wp2_with fail
   refine (htr _).mono ?_;rintro e w1 ⟨rfl, rfl⟩
   go_wp2
   go_loop [5, 6] (fun n i => ∃ k : Nat, k ≤ t.length ∧ n = .int .u64 (wv (t.drop k)) ∧ i = .int .i64 ((k : Int) - 1)) (fun _ i => (intOf i + 1).toNat)
   case atStart => exact ⟨t.length, Nat.le_refl _, by rw [List.drop_of_length_le (Nat.le_refl _)]; rfl, rfl⟩
   case round =>
    obtain ⟨k, hk, rfl, rfl⟩ := hrel;rcases Nat.eq_zero_or_pos k with h0 | h0
    · subst h0;have e0 : t.drop 0 = t := List.drop_zero;rw [e0];clear e0;have HM := HLT.out
      by_cases hs : wv t ≤ 9223372036854775807
      · have HS := hid (sgn_small (b := neg) hs);clear HLT;generalize hn : wv t = n at *;clear hn;cases neg
        · have HE := hid (sgn_false n)
          go_wp2
          rw [HE.out];exact bodyPost_ret (v := bT n) (by simp [results, Tryz.results148, go_sem, bT]) rfl ⟨_, rfl, bJ _ HS.out, (Below.refl _ _).alloc (Nat.le_refl _) _⟩
        · have HE := hid (sgn_true n)
          go_wp2
          rw [HE.out];exact bodyPost_ret (v := bT (-n)) (by simp [results, Tryz.results148, go_sem, bT]) rfl ⟨_, rfl, bJ _ HS.out, (Below.refl _ _).alloc (Nat.le_refl _) _⟩
      · have hbig : Big t := ⟨HN.out, by unfold Small; omega, by omega⟩
        have hpos : 0 < cap := by
         have h1 := HW.out.le;rcases Nat.eq_zero_or_pos cap with h | h
         · have : t = [] := List.length_eq_zero_iff.1 (by omega);subst this;exact absurd (Nat.zero_le _) hs
         · exact h
        have had := HW.out.ad hpos;subst had;have HBg := hid hbig;clear hbig HLT;generalize hn : wv t = n at *;have HE := hid hn;clear hn
        go_wp2
        have hbl : Below w.heap.size w (w.alloc (.cells #[.int .i64 0, .bool neg, .slice (some ⟨g, off, none⟩) t.length cap] 83)) := (Below.refl _ _).alloc (Nat.le_refl _) _
        exact bodyPost_ret (v := bigV neg (some ⟨g, off, none⟩) t.length cap) (by simp [results, Tryz.results148, go_sem, bigV]) rfl
         ⟨_, rfl, .inr ⟨neg, g, off, cap, t, rfl, HW.out.far hbl, HBg.out, by rw [HE.out]⟩, hbl⟩
    · obtain ⟨h3, h4, h5⟩ := word_drop HN.out.1 h2 h0 hk;have hca := HW.out.at_ (k - 1) (by omega);have hg := HW.out.lt (by have := HW.out.le; omega);have had := HW.out.ad (by have := HW.out.le; omega);subst had;have HD := hid h5;clear h5;generalize t.getD (k - 1) 0 = x at *;generalize hn : wv (t.drop k) = n at *;clear hn;have hor := or_word n x h3 h4;have hp : (0 : Int) ≤ (k : Int) - 1 := by omega
      have hi2 : ((k : Int) - 1).toNat = k - 1 := by omega
      have hi3 : (k : Int) - 1 < (t.length : Int) := by omega
      go_wp2
      go_round
      case rel => exact ⟨k - 1, by omega, by rw [HD.out]; congr 1, by congr 1; omega⟩
      case measure => simp [intOf]; omega
 · have hbig : Big t := ⟨HN.out, three_ge HN.out (by omega), by omega⟩
   have had := HW.out.ad (by have := HW.out.le; omega);subst had;have HBg := hid hbig;clear hbig
   go_enter Tryz.func148, Tryz.ntmps148
   go_wp2_with fail
   refine (htr _).mono ?_;rintro e w1 ⟨rfl, rfl⟩
   go_wp2
   have hbl : Below w.heap.size w (w.alloc (.cells #[.int .i64 0, .bool neg, .slice (some ⟨g, off, none⟩) t.length cap] 83)) := (Below.refl _ _).alloc (Nat.le_refl _) _
   exact bodyPost_ret (v := bigV neg (some ⟨g, off, none⟩) t.length cap) (by simp [results, Tryz.results148, go_sem, bigV]) rfl
    ⟨_, rfl, .inr ⟨neg, g, off, cap, t, rfl, HW.out.far hbl, HBg.out, rfl⟩, hbl⟩
end
end Go.Proofs.YteoklapcifonaaaGreatDoor
namespace Go.Proofs.YteoklapcifonaaaGreatDoor
open Go.RowKit Nmx
theorem u32s_set (l : List Nat) (i x : Nat) : (bj l).toArray.setIfInBounds i (.int .u32 (x : Int)) = (bj (l.set i x)).toArray := by
 simp [bj, List.map_set]
theorem infoU32 : (Tryz.prog.info? 145).map (fun i => (i.zero, i.size, i.bytes)) = some (some (.int .u32 0), 1, 4) := by kernel_rfl
theorem made_u32 (n : Nat) : madeCells (Value.cells (.int .u32 0)) (n * 1) = (bj (List.replicate n 0)).toArray := by
 apply Array.ext
 · simp [madeCells, bj]
 · intro i h1 h2
   simp [madeCells, bj, Value.cells, Nat.mod_one]
theorem mk_words (n : Nat) (hn : n ≤ 1000000000) (z : Int) (hz : z = n) (W : World) :
    (Instr.makeSlice 81 (.int .i64 z) (.int .i64 z)).run Tryz.prog W = .ok (.slice (some ⟨W.heap.size, 0, none⟩) n n) (W.alloc (.cells (bj (List.replicate n 0)).toArray 145)) := by
 subst hz;obtain ⟨i0, hi, hz0, hz1, hz2⟩ := info_parts infoU32;have hr := run_make (P := Tryz.prog) W 81 145 i0 _ Tryz.underlying81 hi hz0 .i64 .i64 n n (by omega) (by omega) (by rw [hz2]; omega) (by omega);rw [hz1, Int.toNat_natCast, made_u32] at hr;exact hr
/-- a block of words of the call's own -/
def WB (w : World) (g : Nat) (l : List Nat) : Prop := w.heap[g]? = some (.cells (bj l).toArray 145 (0, 0))
theorem WB.set {w : World} {g : Nat} {l : List Nat} (h : WB w g l) (i x : Nat) : WB (w.setCell ⟨g, i, none⟩ (.int .u32 (x : Int))) g (l.set i x) := by
 unfold WB;rw [← u32s_set]; exact av h i _
theorem WB.cell {w : World} {g : Nat} {l : List Nat} (h : WB w g l) (i : Nat) (hi : i < l.length) : w.cell? ⟨g, i, none⟩ = some (.int .u32 ((l.getD i 0 : Nat) : Int)) := by
 rw [aa h i]; simpa using u32s_at l i hi
theorem WB.fz {w : World} {g : Nat} {l : List Nat} (h : WB w g l) (i : Nat) : w.frozen? ⟨g, i, none⟩ = false := ah h i
theorem WB.new (w : World) (l : List Nat) : WB (w.alloc (.cells (bj l).toArray 145)) w.heap.size l := heap_alloc_new w _
theorem WB.ws {w : World} {g : Nat} {l : List Nat} (h : WB w g l) (hl : Ws l) (n : Nat) (hn : n = l.length) (hm : n ≤ 1000000000) : WV w (.slice (some ⟨g, 0, none⟩) n n) l := by
 subst hn;exact ⟨_, g, 0, _, rfl, Nat.le_refl _, by omega, fun _ => rfl, (fun h => by cases h), fun _ => ⟨_, _, h⟩, fun i hi => by rw [Nat.zero_add]; exact h.cell i hi, hl⟩
/-- words elsewhere, below where the call began, read as they did -/
theorem WS.keep {w w' : World} {ao : Option Addr} {g off cap : Nat} {l : List Nat} (h : WS w ao g off cap l) (hb : Below w.heap.size w w') {i : Nat} (hi : i < l.length) : w'.cell? ⟨g, off + i, none⟩ = some (.int .u32 ((l.getD i 0 : Nat) : Int)) :=
 (h.far hb).at_ i hi
theorem bU {l : List Nat} {i : Nat} (h : Ws l) : ((l.getD i 0 : Nat) : Int) ≤ 4294967295 := by have := h.getD i; rw [aC] at this; omega
theorem w_div (t : Nat) (z : Int) (hz : z = t) : z / 4294967296 = ((t / BB : Nat) : Int) := by rw [aC]; omega
theorem w_mod (t : Nat) (z : Int) (hz : z = t) : z % 4294967296 = ((t % BB : Nat) : Int) := by rw [aC]; omega
theorem getD_past {l : List Nat} {k : Nat} (h : ¬ k < l.length) : l.getD k 0 = 0 := by rw [List.getD_eq_getElem?_getD, List.getElem?_eq_none (by omega)]; rfl
section
set_option maxRecDepth 100000
set_option maxHeartbeats 4000000
def AddPost (x y la lb : Nat) (w : World) (e : Ending) (w' : World) : Prop := ∃ v l, e = .returned v ∧ WV w' v l ∧ wv l = x + y ∧ l.length ≤ max la lb + 1 ∧ Below w.heap.size w w'
theorem addWords_ge (ao : Option Addr) (g off cap : Nat) (a : List Nat) (bo : Option Addr) (g' off' cap' : Nat) (b : List Nat) (w : World) (ha : WS w ao g off cap a) (hb : WS w bo g' off' cap' b) (hla : a.length ≤ 1000000) (hab : b.length ≤ a.length) :
    Calls Tryz.prog 160 #[.slice ao a.length cap, .slice bo b.length cap'] w (AddPost (wv a) (wv b) a.length b.length w) := by
 have hal := ha.le;have ham := ha.most;have hbl := hb.le;have hbm := hb.most;have HA := hid ha;have HB := hid hb;clear ha hb;have hmk := mk_words (a.length + 1) (by omega) ((a.length : Int) + 1) (by omega);have h1' : ¬ (a.length : Int) < (b.length : Int) := by omega
 have hst := WB.new w (List.replicate (a.length + 1) 0);have hbel : Below w.heap.size w (w.alloc (.cells (bj (List.replicate (a.length + 1) 0)).toArray 145)) := (Below.refl _ _).alloc (Nat.le_refl _) _;have HST := hid hst;have HBE := hid hbel;clear hst hbel
 go_enter Tryz.func160, Tryz.ntmps160
 go_wp2
 go_loopw [6, 22] (fun c i wr => ∃ (k cc : Nat) (l : List Nat), k ≤ a.length ∧ i = .int .i64 k ∧ c = .int .u64 cc ∧ AddR a b l k cc ∧ WB wr w.heap.size l ∧ Below w.heap.size w wr) (fun _ i _ => a.length - (intOf i).toNat)
 case atStart => exact ⟨0, 0, _, Nat.zero_le _, rfl, rfl, AddR.start a b, HST.out, HBE.out⟩
 case round =>
  obtain ⟨k, cc, l, hk, rfl, rfl, hadd, hwb, hbel⟩ := hrel;have HR := hid hadd;have HW := hid hwb;have HBl := hid hbel;have hc1 : (cc : Int) ≤ 1 := by have := hadd.c1; omega
  have hc0 : (0 : Int) ≤ cc := by omega
  have hll := hadd.len;clear hadd hwb hbel HST HBE;have hcw := HW.out.cell k (by omega);have hfw := HW.out.fz k;have hsize := HBl.out.size
  by_cases hlt : k < a.length
  · have had := HA.out.ad (by omega);subst had;have hca := HA.out.keep HBl.out hlt;have hx := bU (i := k) HA.out.ws;have hx0 : (0 : Int) ≤ ((a.getD k 0 : Nat) : Int) := by omega
    have HS := hid (fun t ht => HR.out.step HA.out.ws HB.out.ws hlt t ht)
    by_cases hlb : k < b.length
    · have hbd := HB.out.ad (by omega);subst hbd;have hcb := HB.out.keep HBl.out hlb;have hy := bU (i := k) HB.out.ws;have hy0 : (0 : Int) ≤ ((b.getD k 0 : Nat) : Int) := by omega
      have hllb : (k : Int) < (b.length : Int) := by omega
      generalize a.getD k 0 = x at *;generalize b.getD k 0 = y at *;generalize l.getD k 0 = z at *
      go_wp2
      rw [w_div (x + cc + y) _ (by omega), w_mod (x + cc + y) _ (by omega)];refine ⟨⟨k + 1, (x + cc + y) / BB, l.set k ((x + cc + y) % BB), by omega, by go_num, rfl, HS.out _ rfl, HW.out.set k _, HBl.out.setCell (Nat.le_refl _) _⟩, ?_⟩
      simp [intOf]; omega
    · have hllb : ¬ (k : Int) < (b.length : Int) := by omega
      rw [getD_past hlb] at HS;generalize a.getD k 0 = x at *;generalize l.getD k 0 = z at *
      go_wp2
      rw [w_div (x + cc) _ (by omega), w_mod (x + cc) _ (by omega)];refine ⟨⟨k + 1, (x + cc) / BB, l.set k ((x + cc) % BB), by omega, by go_num, rfl, HS.out _ rfl, HW.out.set k _, HBl.out.setCell (Nat.le_refl _) _⟩, ?_⟩
      simp [intOf]; omega
  · obtain rfl : k = a.length := by omega
    obtain ⟨d1, d2, d3⟩ := HR.out.done (by omega);have D1 := hid d1;have D2 := hid d2;have D3 := hid d3;clear d1 d2 d3
    go_wp2
    go_ret
    exact ⟨_, _, rfl, (HW.out.set a.length cc).ws D2.out _ (by have := D3.out; omega) (by omega), D1.out, by rw [D3.out]; omega, HBl.out.setCell (Nat.le_refl _) _⟩
theorem addWords_lt (ao : Option Addr) (g off cap : Nat) (a : List Nat) (bo : Option Addr) (g' off' cap' : Nat) (b : List Nat) (w : World) (ha : WS w ao g off cap a) (hb : WS w bo g' off' cap' b) (hlb' : b.length ≤ 1000000) (hab : a.length < b.length) :
    Calls Tryz.prog 160 #[.slice ao a.length cap, .slice bo b.length cap'] w (AddPost (wv a) (wv b) a.length b.length w) := by
 have hal := ha.le;have ham := ha.most;have hbl := hb.le;have hbm := hb.most;have HA := hid ha;have HB := hid hb;clear ha hb;have hmk := mk_words (b.length + 1) (by omega) ((b.length : Int) + 1) (by omega);have h1' : (a.length : Int) < (b.length : Int) := by omega
 have hst := WB.new w (List.replicate (b.length + 1) 0);have hbel : Below w.heap.size w (w.alloc (.cells (bj (List.replicate (b.length + 1) 0)).toArray 145)) := (Below.refl _ _).alloc (Nat.le_refl _) _;have HST := hid hst;have HBE := hid hbel;clear hst hbel
 go_enter Tryz.func160, Tryz.ntmps160
 go_wp2
 go_loopw [6, 22] (fun c i wr => ∃ (k cc : Nat) (l : List Nat), k ≤ b.length ∧ i = .int .i64 k ∧ c = .int .u64 cc ∧ AddR b a l k cc ∧ WB wr w.heap.size l ∧ Below w.heap.size w wr) (fun _ i _ => b.length - (intOf i).toNat)
 case atStart => exact ⟨0, 0, _, Nat.zero_le _, rfl, rfl, AddR.start b a, HST.out, HBE.out⟩
 case round =>
  obtain ⟨k, cc, l, hk, rfl, rfl, hadd, hwb, hbel⟩ := hrel;have HR := hid hadd;have HW := hid hwb;have HBl := hid hbel;have hc1 : (cc : Int) ≤ 1 := by have := hadd.c1; omega
  have hc0 : (0 : Int) ≤ cc := by omega
  have hll := hadd.len;clear hadd hwb hbel HST HBE;have hcw := HW.out.cell k (by omega);have hfw := HW.out.fz k;have hsize := HBl.out.size
  by_cases hlt : k < b.length
  · have had := HB.out.ad (by omega);subst had;have hca := HB.out.keep HBl.out hlt;have hx := bU (i := k) HB.out.ws;have hx0 : (0 : Int) ≤ ((b.getD k 0 : Nat) : Int) := by omega
    have HS := hid (fun t ht => HR.out.step HB.out.ws HA.out.ws hlt t ht)
    by_cases hlb : k < a.length
    · have hbd := HA.out.ad (by omega);subst hbd;have hcb := HA.out.keep HBl.out hlb;have hy := bU (i := k) HA.out.ws;have hy0 : (0 : Int) ≤ ((a.getD k 0 : Nat) : Int) := by omega
      have hllb : (k : Int) < (a.length : Int) := by omega
      generalize b.getD k 0 = x at *;generalize a.getD k 0 = y at *;generalize l.getD k 0 = z at *
      go_wp2
      rw [w_div (x + cc + y) _ (by omega), w_mod (x + cc + y) _ (by omega)];refine ⟨⟨k + 1, (x + cc + y) / BB, l.set k ((x + cc + y) % BB), by omega, by go_num, rfl, HS.out _ rfl, HW.out.set k _, HBl.out.setCell (Nat.le_refl _) _⟩, ?_⟩
      simp [intOf]; omega
    · have hllb : ¬ (k : Int) < (a.length : Int) := by omega
      rw [getD_past hlb] at HS;generalize b.getD k 0 = x at *;generalize l.getD k 0 = z at *
      go_wp2
      rw [w_div (x + cc) _ (by omega), w_mod (x + cc) _ (by omega)];refine ⟨⟨k + 1, (x + cc) / BB, l.set k ((x + cc) % BB), by omega, by go_num, rfl, HS.out _ rfl, HW.out.set k _, HBl.out.setCell (Nat.le_refl _) _⟩, ?_⟩
      simp [intOf]; omega
  · obtain rfl : k = b.length := by omega
    obtain ⟨d1, d2, d3⟩ := HR.out.done (by omega);have D1 := hid d1;have D2 := hid d2;have D3 := hid d3;clear d1 d2 d3
    go_wp2
    go_ret
    exact ⟨_, _, rfl, (HW.out.set b.length cc).ws D2.out _ (by have := D3.out; omega) (by omega), by rw [D1.out, Nat.add_comm], by rw [D3.out]; omega, HBl.out.setCell (Nat.le_refl _) _⟩
theorem addWords_any (x y : Value) (a b : List Nat) (w : World) (ha : WV w x a) (hb : WV w y b) (hla : a.length ≤ 1000000) (hlb : b.length ≤ 1000000) : Calls Tryz.prog 160 #[x, y] w (AddPost (wv a) (wv b) a.length b.length w) := by
 obtain ⟨ao, g, off, cap, rfl, h1⟩ := ha;obtain ⟨bo, g', off', cap', rfl, h2⟩ := hb
 by_cases h : a.length < b.length
 · exact addWords_lt ao g off cap a bo g' off' cap' b w h1 h2 hlb h
 · exact addWords_ge ao g off cap a bo g' off' cap' b w h1 h2 hla (by omega)
end
end Go.Proofs.YteoklapcifonaaaGreatDoor
namespace Go.Proofs.YteoklapcifonaaaGreatDoor
open Go.RowKit Nmx
theorem sub_word (x y c : Nat) (hx : x < 4294967296) (hy : y < 4294967296) (hc : c ≤ 1) :
    ∃ T1 T2 : Nat, IntKind.u64.wrap ((x : Int) - (c : Int)) = T1 ∧ IntKind.u64.wrap ((T1 : Int) - (y : Int)) = T2 ∧ T1 < 18446744073709551616 ∧ T2 < 18446744073709551616 ∧ T2 / 9223372036854775808 ≤ 1 ∧ T2 % 4294967296 + y + c = x + 4294967296 * (T2 / 9223372036854775808) := by
 by_cases h1 : x < c
 · by_cases h2 : x < y + c
   · exact ⟨18446744073709551615, 18446744073709551616 + x - y - c, by rw [IntKind.wrap_u64]; omega, by rw [IntKind.wrap_u64]; omega, by omega, by omega, by omega, by omega⟩
   · omega
 · by_cases h2 : x < y + c
   · exact ⟨x - c, 18446744073709551616 + x - y - c, by rw [IntKind.wrap_u64]; omega, by rw [IntKind.wrap_u64]; omega, by omega, by omega, by omega, by omega⟩
   · exact ⟨x - c, x - y - c, by rw [IntKind.wrap_u64]; omega, by rw [IntKind.wrap_u64]; omega, by omega, by omega, by omega, by omega⟩
theorem w_63 (t : Nat) (z : Int) (hz : z = t) : z / 9223372036854775808 = ((t / 9223372036854775808 : Nat) : Int) := by omega
section
set_option maxRecDepth 100000
set_option maxHeartbeats 4000000
def SubPost (x y la : Nat) (w : World) (e : Ending) (w' : World) : Prop := ∃ v l, e = .returned v ∧ WV w' v l ∧ wv l = x - y ∧ l.length ≤ la ∧ Below w.heap.size w w'
theorem subWords_at (ao : Option Addr) (g off cap : Nat) (a : List Nat) (bo : Option Addr) (g' off' cap' : Nat) (b : List Nat) (w : World) (ha : WS w ao g off cap a) (hb : WS w bo g' off' cap' b) (hla : a.length ≤ 1000000) (hab : b.length ≤ a.length) (hle : wv b ≤ wv a) :
    Calls Tryz.prog 162 #[.slice ao a.length cap, .slice bo b.length cap'] w (SubPost (wv a) (wv b) a.length w) := by
 have hal := ha.le;have ham := ha.most;have hbl := hb.le;have hbm := hb.most;have HA := hid ha;have HB := hid hb;have HLE := hid hle;clear ha hb hle;have hmk := mk_words a.length (by omega) (a.length : Int) rfl;have hst := WB.new w (List.replicate a.length 0);have hbel : Below w.heap.size w (w.alloc (.cells (bj (List.replicate a.length 0)).toArray 145)) := (Below.refl _ _).alloc (Nat.le_refl _) _;have HST := hid hst;have HBE := hid hbel;clear hst hbel
 go_enter Tryz.func162, Tryz.ntmps162
 go_wp2
 go_loopw [6, 14] (fun c i wr => ∃ (k cc : Nat) (l : List Nat), k ≤ a.length ∧ i = .int .i64 k ∧ c = .int .u64 cc ∧ SubR a b l k cc ∧ WB wr w.heap.size l ∧ Below w.heap.size w wr) (fun _ i _ => a.length - (intOf i).toNat)
 case atStart => exact ⟨0, 0, _, Nat.zero_le _, rfl, rfl, SubR.start a b, HST.out, HBE.out⟩
 case round =>
  obtain ⟨k, cc, l, hk, rfl, rfl, hsub, hwb, hbel⟩ := hrel;have HR := hid hsub;have HW := hid hwb;have HBl := hid hbel;have hc1 := hsub.c1;have hc0 : (0 : Int) ≤ cc := by omega
  have hll := hsub.len;clear hsub hwb hbel HST HBE
  by_cases hlt : k < a.length
  · have hcw := HW.out.cell k (by omega);have hfw := HW.out.fz k;have hsize := HBl.out.size;have had := HA.out.ad (by omega);subst had;have hca := HA.out.keep HBl.out hlt;have hx := bU (i := k) HA.out.ws;have hy := bU (i := k) HB.out.ws;have hx0 : (0 : Int) ≤ ((a.getD k 0 : Nat) : Int) := by omega
    have HS := hid (fun r c' hr hc he => HR.out.step hlt r c' hr hc he);obtain ⟨T1, T2, w1, w2, t1, t2, t3, t4⟩ := sub_word (a.getD k 0) (b.getD k 0) cc (by omega) (by omega) hc1;have HT := hid t4;have HT3 := hid t3;clear t3 t4
    by_cases hlb : k < b.length
    · have hbd := HB.out.ad (by omega);subst hbd;have hcb := HB.out.keep HBl.out hlb;have hy0 : (0 : Int) ≤ ((b.getD k 0 : Nat) : Int) := by omega
      have hllb : (k : Int) < (b.length : Int) := by omega
      generalize a.getD k 0 = x at *;generalize b.getD k 0 = y at *;generalize l.getD k 0 = z at *
      go_wp2
      rw [w_63 T2 _ rfl, w_mod T2 _ rfl];refine ⟨⟨k + 1, T2 / 9223372036854775808, l.set k (T2 % BB), by omega, by go_num, rfl, HS.out _ _ (Nat.mod_lt _ aO) HT3.out (by have := HT.out; rw [aC]; exact this), HW.out.set k _, HBl.out.setCell (Nat.le_refl _) _⟩, ?_⟩
      simp [intOf]; omega
    · have hllb : ¬ (k : Int) < (b.length : Int) := by omega
      rw [getD_past hlb] at HS HT w2
      have e : T1 = T2 := by
       rw [IntKind.wrap_u64] at w2
       omega
      subst e;clear w2 hy;generalize a.getD k 0 = x at *;generalize l.getD k 0 = z at *
      go_wp2
      rw [w_63 T1 _ rfl, w_mod T1 _ rfl];refine ⟨⟨k + 1, T1 / 9223372036854775808, l.set k (T1 % BB), by omega, by go_num, rfl, HS.out _ _ (Nat.mod_lt _ aO) HT3.out (by have := HT.out; rw [aC]; exact this), HW.out.set k _, HBl.out.setCell (Nat.le_refl _) _⟩, ?_⟩
      simp [intOf]; omega
  · obtain rfl : k = a.length := by omega
    have D1 := hid (HR.out.done hab HLE.out)
    go_wp2
    go_ret
    exact ⟨_, _, rfl, HW.out.ws HR.out.ws _ (by omega) (by omega), D1.out.1, by omega, HBl.out⟩
theorem subWords_any (x y : Value) (a b : List Nat) (w : World) (ha : WV w x a) (hb : WV w y b) (hla : a.length ≤ 1000000) (hab : b.length ≤ a.length) (hle : wv b ≤ wv a) : Calls Tryz.prog 162 #[x, y] w (SubPost (wv a) (wv b) a.length w) := by
 obtain ⟨ao, g, off, cap, rfl, h1⟩ := ha;obtain ⟨bo, g', off', cap', rfl, h2⟩ := hb;exact subWords_at ao g off cap a bo g' off' cap' b w h1 h2 hla hab hle
end
end Go.Proofs.YteoklapcifonaaaGreatDoor
namespace Go.Proofs.YteoklapcifonaaaGreatDoor
open Go.RowKit Nmx
section
set_option maxRecDepth 100000
set_option maxHeartbeats 4000000
def MulPost (x y la : Nat) (w : World) (e : Ending) (w' : World) : Prop := ∃ v l, e = .returned v ∧ WV w' v l ∧ wv l = x * y ∧ l.length ≤ la ∧ Below w.heap.size w w'
theorem mulWords_at (ao : Option Addr) (g off cap : Nat) (a : List Nat) (bo : Option Addr) (g' off' cap' : Nat) (b : List Nat) (w : World) (ha : WS w ao g off cap a) (hb : WS w bo g' off' cap' b) (hla : a.length ≤ 1000000) (hlb : b.length ≤ 1000000) :
    Calls Tryz.prog 149 #[.slice ao a.length cap, .slice bo b.length cap'] w (MulPost (wv a) (wv b) (a.length + b.length) w) := by
 have hal := ha.le;have ham := ha.most;have hbl := hb.le;have hbm := hb.most;have HA := hid ha;have HB := hid hb;clear ha hb;have hmk := mk_words (a.length + b.length) (by omega) ((a.length : Int) + (b.length : Int)) (by omega);have hst := WB.new w (List.replicate (a.length + b.length) 0);have hbel : Below w.heap.size w (w.alloc (.cells (bj (List.replicate (a.length + b.length) 0)).toArray 145)) := (Below.refl _ _).alloc (Nat.le_refl _) _;have HST := hid hst;have HBE := hid hbel;clear hst hbel
 go_enter Tryz.func149, Tryz.ntmps149
 go_wp2
 go_loopw [20] (fun i wr => ∃ (k : Nat) (l : List Nat), k ≤ a.length ∧ i = .int .i64 k ∧ MulR a b l k 0 0 ∧ WB wr w.heap.size l ∧ Below w.heap.size w wr) (fun i _ => a.length - (intOf i).toNat)
 case atStart => exact ⟨0, _, Nat.zero_le _, rfl, MulR.start a b, HST.out, HBE.out⟩
 case round =>
  obtain ⟨k, l, hk, rfl, hmul, hwb, hbel⟩ := hrel;have HR := hid hmul;have HW := hid hwb;have HBl := hid hbel;have hll := hmul.len;clear hmul hwb hbel HST HBE
  by_cases hlt : k < a.length
  · have had := HA.out.ad (by omega);subst had;have hca := HA.out.keep HBl.out hlt;have hx := bU (i := k) HA.out.ws;have hx0 : (0 : Int) ≤ ((a.getD k 0 : Nat) : Int) := by omega
    obtain ⟨x, hxe⟩ : ∃ x, a.getD k 0 = x := ⟨_, rfl⟩
    rw [hxe] at hca hx hx0;have HX := hid hxe;clear hxe;obtain ⟨wo, rfl⟩ : ∃ wo : World, wo = wr := ⟨_, rfl⟩
    go_wp2
    go_loopw [8, 27] (fun c j wr => ∃ (m cc : Nat) (l : List Nat), m ≤ b.length ∧ j = .int .i64 m ∧ c = .int .u64 cc ∧ MulR a b l k m cc ∧ WB wr w.heap.size l ∧ Below w.heap.size w wr) (fun _ j _ => b.length - (intOf j).toNat)
    case atStart => exact ⟨0, 0, l, Nat.zero_le _, rfl, rfl, HR.out, HW.out, HBl.out⟩
    case round =>
     obtain ⟨m, cc, l2, hm, rfl, rfl, hmul, hwb, hbel⟩ := hrel;have HR2 := hid hmul;have HW2 := hid hwb;have HBl2 := hid hbel;have hll2 := hmul.len;have hc1 : cc < 4294967296 := by have := hmul.c1; rw [aC] at this; exact this
     clear hmul hwb hbel HR HW HBl hca;have hsize := HBl2.out.size
     by_cases hlm : m < b.length
     · have hbd := HB.out.ad (by omega);subst hbd;have hcb := HB.out.keep HBl2.out hlm;have hy := bU (i := m) HB.out.ws;have hy0 : (0 : Int) ≤ ((b.getD m 0 : Nat) : Int) := by omega
       have hz := bU (i := k + m) HR2.out.ws;have hz0 : (0 : Int) ≤ ((l2.getD (k + m) 0 : Nat) : Int) := by omega
       have hcw := HW2.out.cell (k + m) (by omega);have hfw := HW2.out.fz (k + m);have hi1 : (k : Int) + (m : Int) < (a.length : Int) + (b.length : Int) := by omega
       have hi2 : ((k : Int) + (m : Int)).toNat = k + m := by omega
       have hi0 : (0 : Int) ≤ (k : Int) + (m : Int) := by omega
       have HS := hid (fun t ht => HR2.out.step HA.out.ws HB.out.ws hlt hlm t ht);have HX2 := HX.out;have HS2 : Hid (∀ t, t = x * b.getD m 0 + l2.getD (k + m) 0 + cc → MulR a b (l2.set (k + m) (t % BB)) k (m + 1) (t / BB) ∧ t < BB * BB) := hid (fun t ht => HS.out t (by rw [HX2]; exact ht));clear HS HX2;generalize b.getD m 0 = y at *;generalize l2.getD (k + m) 0 = z at *;have hP := (HS2.out _ rfl).2;rw [aC] at hP;have hm1 : IntKind.u64.wrap ((x : Int) * (y : Int)) = ((x * y : Nat) : Int) := by rw [← Int.natCast_mul, IntKind.wrap_u64]; omega
       generalize hPe : x * y = P at *;clear hPe;have hP0 : (0 : Int) ≤ (P : Int) := by omega
       have hP1 : (P : Int) + (z : Int) + (cc : Int) ≤ 18446744073709551615 := by omega
       have hc0 : (0 : Int) ≤ (cc : Int) := by omega
       clear hP
       go_wp2
       rw [w_div (P + z + cc) _ (by omega), w_mod (P + z + cc) _ (by omega)];refine ⟨⟨m + 1, (P + z + cc) / BB, l2.set (k + m) ((P + z + cc) % BB), by omega, by go_num, rfl, (HS2.out _ rfl).1, HW2.out.set _ _, HBl2.out.setCell (Nat.le_refl _) _⟩, ?_⟩
       simp [intOf]; omega
     · obtain rfl : m = b.length := by omega
       have HN := hid (HR2.out.next hlt);have hcw := HW2.out.cell (k + b.length) (by omega);have hfw := HW2.out.fz (k + b.length);have hi1 : (k : Int) + (b.length : Int) < (a.length : Int) + (b.length : Int) := by omega
       have hi2 : ((k : Int) + (b.length : Int)).toNat = k + b.length := by omega
       have hi0 : (0 : Int) ≤ (k : Int) + (b.length : Int) := by omega
       have hc0 : (0 : Int) ≤ (cc : Int) := by omega
       generalize l2.getD (k + b.length) 0 = z at *
       go_wp2
       refine ⟨⟨k + 1, l2.set (k + b.length) cc, by omega, by go_num, HN.out, HW2.out.set _ _, HBl2.out.setCell (Nat.le_refl _) _⟩, ?_⟩
       simp [intOf]; omega
  · obtain rfl : k = a.length := by omega
    have D1 := hid HR.out.done
    go_wp2
    go_ret
    exact ⟨_, _, rfl, HW.out.ws HR.out.ws _ (by omega) (by omega), D1.out, by omega, HBl.out⟩
theorem mulWords_any (x y : Value) (a b : List Nat) (w : World) (ha : WV w x a) (hb : WV w y b) (hla : a.length ≤ 1000000) (hlb : b.length ≤ 1000000) : Calls Tryz.prog 149 #[x, y] w (MulPost (wv a) (wv b) (a.length + b.length) w) := by
 obtain ⟨ao, g, off, cap, rfl, h1⟩ := ha;obtain ⟨bo, g', off', cap', rfl, h2⟩ := hb;exact mulWords_at ao g off cap a bo g' off' cap' b w h1 h2 hla hlb
end
end Go.Proofs.YteoklapcifonaaaGreatDoor

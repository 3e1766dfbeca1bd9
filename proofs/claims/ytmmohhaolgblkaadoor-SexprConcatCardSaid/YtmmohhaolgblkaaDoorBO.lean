/- Two texts with a line feed between them: what Parse makes of them, in plain words. -/
import Derived.Test.YtmmohhaolgblkaaDoorBI
namespace Go.Proofs.YtmmohhaolgblkaaDoor
open Go.RowKit

/-- what S is: s, a line feed, t -/
structure Cat (s t S : ByteArray) : Prop where
  eq : S.data.toList = s.data.toList ++ 10 :: t.data.toList
theorem Cat.size {s t S : ByteArray} (h : Cat s t S) : S.size = s.size + 1 + t.size := by
  have := congrArg List.length h.eq
  rw [len_data, List.length_append, List.length_cons, len_data, len_data] at this
  omega
theorem Cat.front {s t S : ByteArray} (h : Cat s t S) {p : Nat} (hp : p ≤ s.size) : S.data.toList.drop p = s.data.toList.drop p ++ 10 :: t.data.toList := by
  rw [h.eq, List.drop_append_of_le_length (by rw [len_data]; exact hp)]
theorem Cat.back {s t S : ByteArray} (h : Cat s t S) (k : Nat) : S.data.toList.drop (s.size + 1 + k) = t.data.toList.drop k := by
  rw [h.eq, List.drop_append, len_data]
  rw [List.drop_of_length_le (by rw [len_data]; omega), List.nil_append, show s.size + 1 + k - s.size = k + 1 by omega]
  rfl
theorem Cat.byte {s t S : ByteArray} (h : Cat s t S) {p : Nat} (hp : p < s.size) (hS : p < S.size) : S[p] = s[p] := by
  have h1 := h.front (Nat.le_of_lt hp)
  rw [drop_at S p hS, drop_at s p hp] at h1
  injection h1
theorem Cat.byte2 {s t S : ByteArray} (h : Cat s t S) {k : Nat} (hk : k < t.size) (hS : s.size + 1 + k < S.size) : S[s.size + 1 + k] = t[k] := by
  have h1 := h.back k
  rw [drop_at S _ hS, drop_at t k hk] at h1
  injection h1
theorem Cat.feed {s t S : ByteArray} (h : Cat s t S) (hS : s.size < S.size) : S[s.size] = 10 := by
  have h1 := h.front (Nat.le_refl s.size)
  rw [drop_at S _ hS, drop_end s s.size (by omega)] at h1
  injection h1

theorem skipN_front (r : List UInt8) : ∀ (l : List UInt8) (cm : Bool), Sx.skipN cm (l ++ 10 :: r) = Sx.skipN cm l + Sx.skipN false ((l ++ 10 :: r).drop (Sx.skipN cm l)) := by
  intro l
  induction l with
  | nil => intro cm; simp [Sx.skipN]
  | cons c l ih =>
    intro cm
    have a := ih false
    have b := ih true
    simp only [List.cons_append, Sx.skipN]
    split
    · rw [a, show 1 + Sx.skipN false l = Sx.skipN false l + 1 by omega, List.drop_succ_cons]; omega
    · split
      · rw [b, show 1 + Sx.skipN true l = Sx.skipN true l + 1 by omega, List.drop_succ_cons]; omega
      · split
        · rw [b, show 1 + Sx.skipN true l = Sx.skipN true l + 1 by omega, List.drop_succ_cons]; omega
        · split
          · rename_i h1 h2 h3 h4
            simp only [List.drop_zero, Sx.skipN]
            rw [if_neg h1, if_neg (by decide), if_neg h3, if_pos h4]
          · rw [a, show 1 + Sx.skipN false l = Sx.skipN false l + 1 by omega, List.drop_succ_cons]; omega
theorem Cat.skip {s t S : ByteArray} (h : Cat s t S) {p : Nat} (hp : p ≤ s.size) : skipTo S p = skipTo S (skipTo s p) := by
  have hle := skipTo_le s p hp
  unfold skipTo at hle ⊢
  rw [h.front hp, skipN_front]
  have := h.front hle
  rw [this]
  have hd : (s.data.toList.drop p ++ 10 :: t.data.toList).drop (Sx.skipN false (s.data.toList.drop p)) = s.data.toList.drop (p + Sx.skipN false (s.data.toList.drop p)) ++ 10 :: t.data.toList := by
    rw [← h.front hp, List.drop_drop, this]
  rw [hd]; omega
theorem Cat.skip2 {s t S : ByteArray} (h : Cat s t S) (k : Nat) : skipTo S (s.size + 1 + k) = s.size + 1 + skipTo t k := by
  unfold skipTo; rw [h.back k]; omega

theorem textN_front (r : List UInt8) : ∀ (n : Nat) (l : List UInt8), l.length ≤ n → ∀ x, Sx.textN l = some x → Sx.textN (l ++ 10 :: r) = some x := by
  intro n
  induction n with
  | zero => intro l hl x h; cases l with
    | nil => simp [Sx.textN] at h
    | cons a r => simp at hl
  | succ n ih =>
    intro l hl x h
    match l, hl, h with
    | [], _, h => simp [Sx.textN] at h
    | [c], _, h =>
      simp only [Sx.textN] at h
      split at h
      · rename_i hc
        simp only [List.cons_append, List.nil_append, Sx.textN]
        rw [if_pos hc, if_neg (by decide)]; exact h
      · cases h
    | c :: d :: l, hl, h =>
      simp only [Sx.textN] at h
      simp only [List.cons_append, Sx.textN]
      split at h
      · rename_i hc
        rw [if_pos hc]
        split at h
        · rename_i hd
          rw [if_pos hd]
          simp only [Option.map_eq_some_iff] at h ⊢
          obtain ⟨y, hy, rfl⟩ := h
          exact ⟨y, ih l (by simp at hl; omega) y hy, rfl⟩
        · rename_i hd
          rw [if_neg hd]; exact h
      · rename_i hc
        rw [if_neg hc]
        split at h
        · cases h
        · rename_i hb
          rw [if_neg hb]
          simp only [Option.map_eq_some_iff] at h ⊢
          obtain ⟨y, hy, rfl⟩ := h
          exact ⟨y, ih (d :: l) (by simp at hl ⊢; omega) y hy, rfl⟩

/-- an item of s is an item of S -/
theorem Cat.item {s t S : ByteArray} (h : Cat s t S) {p : Nat} {its : List It} {op : List Nat} (hp : p < s.size) {x : PSt} (e : itemF s ⟨p, its, op⟩ = .ok x) : itemF S ⟨p, its, op⟩ = .ok x := by
  have hS : p < S.size := by rw [h.size]; omega
  rw [itemF_eq s p its op hp] at e
  rw [itemF_eq S p its op hS, h.byte hp hS]
  have hfr := h.front (show p + 1 ≤ s.size by omega)
  have hwn : wordN S p = wordN s p := by
    unfold wordN
    rw [h.front (Nat.le_of_lt hp)]
    rw [List.takeWhile_append]
    split
    · rename_i hl
      rw [List.takeWhile_cons, delim_not_wb 10 (by right; right; rfl)]
      simp [hl]
    · rfl
  have hle := wordN_le s p
  have hex : S.extract p (p + wordN s p) = s.extract p (p + wordN s p) := by
    apply ByteArray.ext
    rw [ByteArray.data_extract, ByteArray.data_extract]
    apply Array.toList_inj.1
    rw [Array.toList_extract, Array.toList_extract, List.extract_eq_take_drop, List.extract_eq_take_drop, h.front (Nat.le_of_lt hp)]
    rw [List.take_append_of_le_length (by rw [List.length_drop, len_data]; omega)]
  split at e
  · rename_i hc
    rw [if_pos hc]; exact e
  · rename_i hc
    rw [if_neg hc]
    split at e
    · rename_i hc2
      rw [if_pos hc2]; exact e
    · rename_i hc2
      rw [if_neg hc2]
      split at e
      · rename_i hc3
        rw [if_pos hc3, hfr]
        cases eT : Sx.textN (s.data.toList.drop (p + 1)) with
        | none => rw [eT] at e; cases e
        | some z =>
          rw [eT] at e
          rw [textN_front _ _ _ (Nat.le_refl _) z eT]; exact e
      · rename_i hc3
        rw [if_neg hc3, hwn, hex]; exact e

theorem skipN_stop : ∀ (l : List UInt8) (cm : Bool) (c : UInt8) (r : List UInt8), l.drop (Sx.skipN cm l) = c :: r → c.toNat ≠ 10 ∧ c.toNat ≠ 59 ∧ (c.toNat ≠ 32 ∧ c.toNat ≠ 9 ∧ c.toNat ≠ 13) := by
  intro l
  induction l with
  | nil => intro cm c r h; simp at h
  | cons a l ih =>
    intro cm c r h
    simp only [Sx.skipN] at h
    split at h
    · rw [Nat.add_comm, List.drop_succ_cons] at h; exact ih _ c r h
    · split at h
      · rw [Nat.add_comm, List.drop_succ_cons] at h; exact ih _ c r h
      · split at h
        · rw [Nat.add_comm, List.drop_succ_cons] at h; exact ih _ c r h
        · split at h
          · rename_i h1 h2 h3 h4
            rw [List.drop_zero] at h
            injection h with e1 e2
            subst e1
            exact ⟨h1, h3, h4⟩
          · rw [Nat.add_comm, List.drop_succ_cons] at h; exact ih _ c r h
theorem skipTo_byte (s : ByteArray) (p : Nat) (h : skipTo s p < s.size) : s[skipTo s p].toNat ≠ 10 ∧ s[skipTo s p].toNat ≠ 59 ∧ (s[skipTo s p].toNat ≠ 32 ∧ s[skipTo s p].toNat ≠ 9 ∧ s[skipTo s p].toNat ≠ 13) := by
  have hd := drop_at s (skipTo s p) h
  have : (s.data.toList.drop p).drop (Sx.skipN false (s.data.toList.drop p)) = s[skipTo s p] :: s.data.toList.drop (skipTo s p + 1) := by
    rw [List.drop_drop]; exact hd
  exact skipN_stop _ _ _ _ this
/-- s is read as it stands alone -/
theorem Cat.loop {s t S : ByteArray} (h : Cat s t S) : ∀ (n : Nat) (p : Nat) (its : List It) (op : List Nat) (st : PSt), p ≤ s.size → s.size < skipTo s p + n → parseLoop s n ⟨skipTo s p, its, op⟩ = .ok st → PRel S p its op → PRel S (s.size + 1) st.its st.op := by
  intro n
  induction n with
  | zero => intro p its op st hp hn _ _; have := skipTo_le s p hp; omega
  | succ n ih =>
    intro p its op st hp hn hl hP
    have hsl := skipTo_le s p hp
    have hP1 : PRel S (skipTo s p) its op := by
      have e := h.skip hp
      exact prel_move hP e
    simp only [parseLoop] at hl
    split at hl
    · rename_i hlt
      cases e : itemF s ⟨skipTo s p, its, op⟩ with
      | error z => rw [e] at hl; cases hl
      | ok x =>
        rw [e] at hl
        have hps := item_pos s (skipTo s p) its op hlt x e
        have hS : skipTo s p < S.size := by rw [h.size]; omega
        have hsk : skipTo S (skipTo s p) = skipTo s p := by
          have hb := skipTo_byte s p hlt
          rw [← h.byte hlt hS] at hb
          exact skipTo_stop S _ hS hb.1 hb.2.1 hb.2.2
        have hP2 := prel_item hP1 hS hsk (h.item hlt e)
        have hge := skipTo_ge s x.pos
        exact ih x.pos x.its x.op st hps.2 (by omega) hl hP2
    · rename_i hge
      cases hl
      have he : skipTo s p = s.size := by omega
      rw [he] at hP1
      have hS : s.size < S.size := by rw [h.size]; omega
      exact prel_move hP1 (skipTo_white S s.size hS (by rw [h.feed hS]; right; right; right; rfl))

/-- items moved -/
def moved (o : Nat) (l : List It) : List It := l.map fun x => { x with pos := x.pos + o }
theorem moved_len (o : Nat) (l : List It) : (moved o l).length = l.length := by simp [moved]
theorem moved_append (o : Nat) (a b : List It) : moved o (a ++ b) = moved o a ++ moved o b := by simp [moved]
theorem moved_modify (o : Nat) (l : List It) (i : Nat) : moved o (l.modify i It.bump) = (moved o l).modify i It.bump := by
  apply List.ext_getElem?
  intro j
  unfold moved
  rw [List.getElem?_map, List.getElem?_modify, List.getElem?_modify, List.getElem?_map]
  cases l[j]? with
  | none => rfl
  | some a =>
    show some _ = some _
    by_cases e : i = j
    · subst e; simp [It.bump]
    · simp [e]
theorem modify_right (f : It → It) (A C : List It) (i : Nat) : (A ++ C).modify (i + A.length) f = A ++ C.modify i f := by
  apply List.ext_getElem?
  intro j
  rw [List.getElem?_modify]
  by_cases hj : j < A.length
  · rw [List.getElem?_append_left hj, List.getElem?_append_left hj]
    cases A[j]? with
    | none => rfl
    | some a => show some (if i + A.length = j then f a else a) = some a; rw [if_neg (by omega)]
  · rw [List.getElem?_append_right (by omega), List.getElem?_append_right (by omega), List.getElem?_modify]
    cases C[j - A.length]? with
    | none => rfl
    | some a =>
      show some (if i + A.length = j then f a else a) = some (if i = j - A.length then f a else a)
      by_cases e : i = j - A.length
      · rw [if_pos (by omega), if_pos e]
      · rw [if_neg (by omega), if_neg e]
theorem bump_shift (A : List It) (o : Nat) (I : List It) (op : List Nat) : bumpAt (A ++ moved o I) ((op.map (· + A.length)).getLast?) = A ++ moved o (bumpAt I op.getLast?) := by
  rw [List.getLast?_map]
  cases op.getLast? with
  | none => rfl
  | some i =>
    simp only [Option.map_some, bumpAt]
    rw [modify_right, moved_modify]

/-- an item of t is an item of S, moved -/
theorem Cat.item2 {s t S : ByteArray} (h : Cat s t S) {k : Nat} {A its : List It} {op : List Nat} (hk : k < t.size) {x : PSt} (e : itemF t ⟨k, its, op⟩ = .ok x) :
    itemF S ⟨s.size + 1 + k, A ++ moved (s.size + 1) its, op.map (· + A.length)⟩ = .ok ⟨s.size + 1 + x.pos, A ++ moved (s.size + 1) x.its, x.op.map (· + A.length)⟩ := by
  have hS : s.size + 1 + k < S.size := by rw [h.size]; omega
  rw [itemF_eq t k its op hk] at e
  rw [itemF_eq S (s.size + 1 + k) _ _ hS, h.byte2 hk hS]
  have hbk : S.data.toList.drop (s.size + 1 + k + 1) = t.data.toList.drop (k + 1) := h.back (k + 1)
  have hwn : wordN S (s.size + 1 + k) = wordN t k := by unfold wordN; rw [h.back k]
  have hex : S.extract (s.size + 1 + k) (s.size + 1 + k + wordN t k) = t.extract k (k + wordN t k) := by
    apply ByteArray.ext
    rw [ByteArray.data_extract, ByteArray.data_extract]
    apply Array.toList_inj.1
    rw [Array.toList_extract, Array.toList_extract, List.extract_eq_take_drop, List.extract_eq_take_drop, h.back k]
    congr 1; omega
  have hadd : ∀ (kind : Int) (text : ByteArray) (q : Nat) (y : PSt), addTo ⟨k, its, op⟩ kind text k q = .ok y → addTo ⟨s.size + 1 + k, A ++ moved (s.size + 1) its, op.map (· + A.length)⟩ kind text (s.size + 1 + k) (s.size + 1 + q) = .ok ⟨s.size + 1 + y.pos, A ++ moved (s.size + 1) y.its, y.op.map (· + A.length)⟩ := by
    intro kind text q y hy
    unfold addTo at hy ⊢
    simp only [List.length_map]
    split at hy
    · cases hy
    · rename_i hd
      cases hy
      rw [if_neg hd, bump_shift, moved_append, ← List.append_assoc]
      simp only [moved, List.map_cons, List.map_nil]
      congr 5
      show ((s.size + 1 + k : Nat) : Int) = (k : Int) + ((s.size + 1 : Nat) : Int)
      omega
  split at e
  · rename_i hc
    rw [if_pos hc]
    split at e
    · cases e
    · rename_i hop
      cases e
      rw [if_neg (by simpa using hop)]
      rw [← List.map_dropLast]; rfl
  · rename_i hc
    rw [if_neg hc]
    split at e
    · rename_i hc2
      rw [if_pos hc2]
      cases ea : addTo ⟨k, its, op⟩ 5 ⟨#[]⟩ k (k + 1) with
      | error z => rw [ea] at e; cases e
      | ok y =>
        rw [ea] at e; cases e
        have := hadd 5 ⟨#[]⟩ (k + 1) y ea
        rw [← Nat.add_assoc] at this
        rw [this]
        have hyl : 0 < y.its.length := by
          obtain ⟨_, h2, _⟩ := addTo_ok ea
          rw [h2]; simp
        simp only [List.length_append, moved_len, List.map_append, List.map_cons, List.map_nil]
        congr 4
        omega
    · rename_i hc2
      rw [if_neg hc2]
      split at e
      · rename_i hc3
        rw [if_pos hc3, hbk]
        cases eT : Sx.textN (t.data.toList.drop (k + 1)) with
        | none => rw [eT] at e; cases e
        | some z =>
          rw [eT] at e
          have := hadd 4 ⟨z.1.toArray⟩ (k + 1 + z.2) x e
          simp only
          rw [show s.size + 1 + k + 1 + z.2 = s.size + 1 + (k + 1 + z.2) by omega]
          exact this
      · rename_i hc3
        rw [if_neg hc3, hwn, hex]
        split at e
        · cases e
        · rename_i hk0
          rw [if_neg hk0]
          have := hadd _ _ _ x e
          rw [show s.size + 1 + k + wordN t k = s.size + 1 + (k + wordN t k) by omega]
          exact this

/-- t is read as it stands alone, moved -/
theorem Cat.loop2 {s t S : ByteArray} (h : Cat s t S) (A : List It) : ∀ (n : Nat) (p : Nat) (its : List It) (op : List Nat) (st : PSt), p ≤ t.size → t.size < skipTo t p + n → parseLoop t n ⟨skipTo t p, its, op⟩ = .ok st → PRel S (s.size + 1 + p) (A ++ moved (s.size + 1) its) (op.map (· + A.length)) →
    ∃ k, ¬ k < S.size ∧ PRel S k (A ++ moved (s.size + 1) st.its) (st.op.map (· + A.length)) := by
  intro n
  induction n with
  | zero => intro p its op st hp hn _ _; have := skipTo_le t p hp; omega
  | succ n ih =>
    intro p its op st hp hn hl hP
    have hsl := skipTo_le t p hp
    have hP1 : PRel S (s.size + 1 + skipTo t p) (A ++ moved (s.size + 1) its) (op.map (· + A.length)) := by
      refine prel_move hP ?_
      rw [h.skip2, h.skip2]
      have hid : skipTo t (skipTo t p) = skipTo t p := by
        rcases Nat.lt_or_ge (skipTo t p) t.size with hlt | hge
        · have hb := skipTo_byte t p hlt
          exact skipTo_stop t _ hlt hb.1 hb.2.1 hb.2.2
        · have := skipTo_le t (skipTo t p) hsl
          have := skipTo_ge t (skipTo t p)
          omega
      rw [hid]
    simp only [parseLoop] at hl
    split at hl
    · rename_i hlt
      cases e : itemF t ⟨skipTo t p, its, op⟩ with
      | error z => rw [e] at hl; cases hl
      | ok x =>
        rw [e] at hl
        have hps := item_pos t (skipTo t p) its op hlt x e
        have hS : s.size + 1 + skipTo t p < S.size := by rw [h.size]; omega
        have hsk : skipTo S (s.size + 1 + skipTo t p) = s.size + 1 + skipTo t p := by
          have hb := skipTo_byte t p hlt
          rw [← h.byte2 hlt hS] at hb
          exact skipTo_stop S _ hS hb.1 hb.2.1 hb.2.2
        have hP2 := prel_item hP1 hS hsk (h.item2 (A := A) hlt e)
        have hge := skipTo_ge t x.pos
        exact ih x.pos x.its x.op st hps.2 (by omega) hl hP2
    · rename_i hge
      cases hl
      exact ⟨_, by rw [h.size]; omega, hP1⟩

theorem parseT_ok {s : ByteArray} {a : List It} (h : parseT s = (a, 0, 0)) : ¬ 65536 < s.size ∧ ∃ st, parseLoop s (s.size + 1) ⟨skipTo s 0, [], []⟩ = .ok st ∧ st.its = a ∧ st.op = [] := by
  unfold parseT at h
  split at h
  · simp at h
  · rename_i hz
    refine ⟨hz, ?_⟩
    unfold parseF at h
    split at h
    · rename_i a' k' e
      have hne : k' ≠ 0 := by
        have key : ∀ (n : Nat) (st : PSt), st.pos ≤ s.size → ∀ a k, parseLoop s n st = .error (a, k) → k ≠ 0 := by
          intro n
          induction n with
          | zero => intro st _ a k h; cases h
          | succ n ih =>
            intro st hp a k h
            obtain ⟨p, its, op⟩ := st
            simp only [parseLoop] at h
            split at h
            · rename_i hlt
              cases e2 : itemF s ⟨p, its, op⟩ with
              | error z =>
                rw [e2] at h
                cases h
                exact item_err s p its op hlt a k e2
              | ok y =>
                rw [e2] at h
                exact ih ⟨skipTo s y.pos, y.its, y.op⟩ (skipTo_le s y.pos (item_pos s p its op hlt y e2).2) a k h
            · cases h
        exact key _ _ (skipTo_le s 0 (Nat.zero_le _)) _ _ e
      simp only [Prod.mk.injEq] at h
      exact absurd h.2.2 hne
    · rename_i st e
      split at h
      · rename_i hop
        simp only [Prod.mk.injEq] at h
        exact ⟨st, e, h.1, hop⟩
      · simp at h
/-- two texts that are parsed, with a line feed between them -/
theorem Cat.parse {s t S : ByteArray} (h : Cat s t S) {a b : List It} (ha : parseT s = (a, 0, 0)) (hb : parseT t = (b, 0, 0)) (hz : S.size ≤ 65536) : parseT S = (a ++ moved (s.size + 1) b, 0, 0) := by
  obtain ⟨_, st, h1, h2, h3⟩ := parseT_ok ha
  obtain ⟨_, st', g1, g2, g3⟩ := parseT_ok hb
  have hge := skipTo_ge s 0
  have hge2 := skipTo_ge t 0
  have hP := h.loop (s.size + 1) 0 [] [] st (Nat.zero_le _) (by omega) h1 (prel_start S)
  rw [h2, h3] at hP
  obtain ⟨k, hk, hP2⟩ := h.loop2 a (t.size + 1) 0 [] [] st' (Nat.zero_le _) (by omega) g1 (by simpa [moved] using hP)
  rw [g2, g3] at hP2
  have := prel_end hP2 hk (by omega)
  rw [this]
  simp
end Go.Proofs.YtmmohhaolgblkaaDoor

/- A text that was formatted is parsed back: in plain words. -/
import Derived.Test.YtmmohhaolgblkaaDoorBF
import Derived.Test.YtmmohhaolgblkaaDoorAD
namespace Go.Proofs.YtmmohhaolgblkaaDoor
open Go.RowKit

/-- the same items, positions aside -/
def Same : List It → List It → Prop
  | [], [] => True
  | x :: a, y :: b => (x.kind = y.kind ∧ x.text = y.text ∧ x.kids = y.kids) ∧ Same a b
  | _, _ => False
theorem Same.append : ∀ {a b c d : List It}, Same a b → Same c d → Same (a ++ c) (b ++ d)
  | [], [], _, _, _, h => h
  | _ :: _, _ :: _, _, _, ⟨h1, h2⟩, h => ⟨h1, Same.append h2 h⟩
  | [], _ :: _, _, _, h, _ => h.elim
  | _ :: _, [], _, _, h, _ => h.elim
theorem Same.len : ∀ {a b : List It}, Same a b → a.length = b.length
  | [], [], _ => rfl
  | _ :: _, _ :: _, ⟨_, h⟩ => by simp [Same.len h]
  | [], _ :: _, h => h.elim
  | _ :: _, [], h => h.elim
theorem modify_left (f : It → It) (I C : List It) (i : Nat) (h : i < I.length) : (I ++ C).modify i f = I.modify i f ++ C := by
  apply List.ext_getElem?
  intro j
  rw [List.getElem?_modify]
  by_cases hj : j < I.length
  · rw [List.getElem?_append_left hj, List.getElem?_append_left (by rw [List.length_modify]; exact hj), List.getElem?_modify]
  · rw [List.getElem?_append_right (by omega), List.getElem?_append_right (by rw [List.length_modify]; omega), List.length_modify]
    cases C[j - I.length]? with
    | none => rfl
    | some a => show some (if i = j then f a else a) = some a; rw [if_neg (by omega)]
theorem modify_end (f : It → It) (I : List It) (x : It) : (I ++ [x]).modify I.length f = I ++ [f x] := by
  apply List.ext_getElem?
  intro j
  rw [List.getElem?_modify]
  by_cases hj : j < I.length
  · rw [List.getElem?_append_left hj, List.getElem?_append_left hj]
    cases I[j]? with
    | none => rfl
    | some a => show some (if I.length = j then f a else a) = some a; rw [if_neg (by omega)]
  · rw [List.getElem?_append_right (by omega), List.getElem?_append_right (by omega)]
    by_cases e : j = I.length
    · subst e; simp
    · rw [List.getElem?_eq_none (by simp; omega), List.getElem?_eq_none (by simp; omega)]; rfl
def bumpN (its : List It) (o : Option Nat) : Nat → List It
  | 0 => its
  | n + 1 => bumpN (bumpAt its o) o n
theorem bumpAt_app (I C : List It) (o : Option Nat) (h : ∀ i, o = some i → i < I.length) : bumpAt (I ++ C) o = bumpAt I o ++ C := by
  cases o with
  | none => rfl
  | some i =>
    simp only [bumpAt]
    exact modify_left _ _ _ _ (h i rfl)
theorem bumpN_app (I C : List It) (o : Option Nat) (h : ∀ i, o = some i → i < I.length) : ∀ n, bumpN (I ++ C) o n = bumpN I o n ++ C := by
  intro n
  induction n generalizing I with
  | zero => rfl
  | succ n ih =>
    simp only [bumpN]
    rw [bumpAt_app I C o h]
    exact ih (bumpAt I o) (fun i e => by rw [bump_len]; exact h i e)
theorem bumpN_len (I : List It) (o : Option Nat) : ∀ n, (bumpN I o n).length = I.length := by
  intro n
  induction n generalizing I with
  | zero => rfl
  | succ n ih => simp only [bumpN]; rw [ih, bump_len]
theorem bumpN_last (A : List It) (t : ByteArray) (p : Int) : ∀ (n : Nat) (k : Int), bumpN (A ++ [⟨5, t, k, p⟩]) (some A.length) n = A ++ [⟨5, t, k + n, p⟩] := by
  intro n
  induction n with
  | zero => intro k; simp [bumpN]
  | succ n ih =>
    intro k
    simp only [bumpN]
    have : bumpAt (A ++ [⟨5, t, k, p⟩]) (some A.length) = A ++ [⟨5, t, k + 1, p⟩] := by
      exact modify_end It.bump A ⟨5, t, k, p⟩
    rw [this, ih]
    have e : k + 1 + (n : Int) = k + ((n + 1 : Nat) : Int) := by omega
    rw [e]

/-- what may follow an item -/
def Delim (l : List UInt8) : Prop := ∀ c r, l = c :: r → c.toNat = 32 ∨ c.toNat = 41 ∨ c.toNat = 10

def One (d : Nat) (its : List It) (u : List UInt8) : Prop :=
  ∀ (s : ByteArray) (p : Nat) (I : List It) (op : List Nat) (post : List UInt8), s.data.toList.drop p = u ++ post → Delim post → Good p I op → PRel s p I op → op.length + d ≤ 256 →
    ∃ its', Same its its' ∧ PRel s (p + u.length) (bumpAt I op.getLast? ++ its') op ∧ Good (p + u.length) (bumpAt I op.getLast? ++ its') op
def Many (d : Nat) (its : List It) (ts : List (List UInt8)) : Prop :=
  ∀ (s : ByteArray) (p : Nat) (I : List It) (op : List Nat) (post : List UInt8), s.data.toList.drop p = joined ts ++ post → (∃ r, post = 41 :: r) → Good p I op → PRel s p I op → op.length + d ≤ 256 →
    ∃ its', Same its its' ∧ PRel s (p + (joined ts).length) (bumpN I op.getLast? ts.length ++ its') op ∧ Good (p + (joined ts).length) (bumpN I op.getLast? ts.length ++ its') op

theorem at_drop {s : ByteArray} {p : Nat} {c : UInt8} {l : List UInt8} (h : s.data.toList.drop p = c :: l) : ∃ hp : p < s.size, s[p] = c ∧ s.data.toList.drop (p + 1) = l := by
  have hp : p < s.size := by
    rcases Nat.lt_or_ge p s.size with h' | h'
    · exact h'
    · rw [drop_end s p (by omega)] at h; cases h
  refine ⟨hp, ?_⟩
  rw [drop_at s p hp] at h
  injection h with h1 h2
  exact ⟨h1, h2⟩

/-- a quoted text is read back -/
theorem textN_quoted : ∀ (t post : List UInt8), printable t = true → (∀ c r, post = c :: r → c.toNat ≠ 34) → Sx.textN (quoted t ++ 34 :: post) = some (t, (quoted t).length + 1)
  | [], post, _, hd => by
    cases post with
    | nil => simp [quoted, Sx.textN]
    | cons c r =>
      have := hd c r rfl
      simp only [quoted, List.flatMap_nil, List.nil_append, Sx.textN]
      rw [if_pos (by decide), if_neg this]; rfl
  | c :: t, post, hp, hd => by
    have hc := List.all_eq_true.1 hp c (by simp)
    simp only [Bool.and_eq_true, decide_eq_true_eq] at hc
    have ht : printable t = true := by
      unfold printable at hp ⊢
      rw [List.all_cons, Bool.and_eq_true] at hp
      exact hp.2
    have ih := textN_quoted t post ht hd
    by_cases h34 : c.toNat = 34
    · have e : quoted (c :: t) = 34 :: 34 :: quoted t := by simp [quoted, h34]
      have hc34 : c = 34 := UInt8.toNat_inj.1 h34
      rw [e]
      simp only [List.cons_append, Sx.textN]
      rw [if_pos (by decide), if_pos (by decide), ih]
      simp [hc34]
    · have e : quoted (c :: t) = c :: quoted t := by simp [quoted, h34]
      rw [e]
      obtain ⟨d, r, hdr⟩ : ∃ d r, quoted t ++ 34 :: post = d :: r := by
        cases h : quoted t ++ 34 :: post with
        | nil => simp at h
        | cons d r => exact ⟨d, r, rfl⟩
      rw [List.cons_append, hdr]
      simp only [Sx.textN]
      rw [if_neg h34, if_neg (by omega), ← hdr, ih]
      simp

/-- what the first byte of an item's text says of white space -/
theorem skip_here {s : ByteArray} {p : Nat} (hp : p < s.size) (h : s[p].toNat ≠ 10 ∧ s[p].toNat ≠ 59 ∧ s[p].toNat ≠ 32 ∧ s[p].toNat ≠ 9 ∧ s[p].toNat ≠ 13) : skipTo s p = p :=
  skipTo_stop s p hp h.1 h.2.1 ⟨h.2.2.1, h.2.2.2.1, h.2.2.2.2⟩
theorem wb_byte (c : UInt8) (h : Sx.wb c = true) : c.toNat ≠ 10 ∧ c.toNat ≠ 59 ∧ c.toNat ≠ 32 ∧ c.toNat ≠ 9 ∧ c.toNat ≠ 13 ∧ c.toNat ≠ 41 ∧ c.toNat ≠ 40 ∧ c.toNat ≠ 34 := by
  have := byte_all (fun c => !Sx.wb c || (c.toNat != 10 && c.toNat != 59 && c.toNat != 32 && c.toNat != 9 && c.toNat != 13 && c.toNat != 41 && c.toNat != 40 && c.toNat != 34)) (by decide +kernel) c
  rw [h] at this
  simp at this
  omega
theorem delim_not_wb (c : UInt8) (h : c.toNat = 32 ∨ c.toNat = 41 ∨ c.toNat = 10) : Sx.wb c = false := by
  have := byte_all (fun c => !(c.toNat == 32 || c.toNat == 41 || c.toNat == 10) || !Sx.wb c) (by decide +kernel) c
  have h2 : (c.toNat == 32 || c.toNat == 41 || c.toNat == 10) = true := by rcases h with h | h | h <;> simp [h]
  rw [h2] at this
  simpa using this
theorem wordN_text {s : ByteArray} {p : Nat} {t post : List UInt8} (h : s.data.toList.drop p = t ++ post) (hw : t.all Sx.wb = true) (hd : Delim post) : wordN s p = t.length := by
  unfold wordN
  rw [h, List.takeWhile_append_of_pos (List.all_eq_true.1 hw)]
  cases post with
  | nil => simp
  | cons c r =>
    rw [List.takeWhile_cons, delim_not_wb c (hd c r rfl)]; simp
theorem extract_text {s : ByteArray} {p : Nat} {t post : List UInt8} (h : s.data.toList.drop p = t ++ post) : s.extract p (p + t.length) = ⟨t.toArray⟩ := by
  apply ByteArray.ext
  rw [ByteArray.data_extract]
  apply Array.toList_inj.1
  rw [Array.toList_extract, List.extract_eq_take_drop, h]
  simp

/-- an item that is no list is read back -/
theorem one_leaf {d : Nat} {kind pos : Int} {text : ByteArray} (hk : leafOk kind text.data.toList = true) : One d [⟨kind, text, 0, pos⟩] (leafText kind text.data.toList) := by
  intro s p I op post hdr hde hG hP hop
  unfold leafOk at hk
  simp only [Bool.or_eq_true, Bool.and_eq_true, beq_iff_eq] at hk
  rcases hk with ⟨rfl, hpr⟩ | ⟨⟨hk, h1⟩, h2⟩
  · have hlt : leafText 4 text.data.toList = 34 :: (quoted text.data.toList ++ [34]) := by rw [leafText, if_pos rfl]
    rw [hlt] at hdr ⊢
    simp only [List.cons_append] at hdr
    obtain ⟨hp, hc, hdr2⟩ := at_drop hdr
    have hcn : s[p].toNat = 34 := by rw [hc]; rfl
    have hT := textN_quoted text.data.toList post hpr (fun c r e => by have := hde c r e; omega)
    have hI : itemF s ⟨p, I, op⟩ = .ok ⟨p + 1 + ((quoted text.data.toList).length + 1), bumpAt I op.getLast? ++ [⟨4, text, 0, p⟩], op⟩ := by
      rw [itemF_eq s p I op hp, if_neg (by omega), if_neg (by omega), if_pos hcn, hdr2]
      rw [show quoted text.data.toList ++ [34] ++ post = quoted text.data.toList ++ 34 :: post by simp, hT]
      unfold addTo
      simp only
      rw [if_neg (by omega)]
    have hsk := skip_here hp (by omega)
    have hlen : p + (34 :: (quoted text.data.toList ++ [34])).length = p + 1 + ((quoted text.data.toList).length + 1) := by simp; omega
    rw [hlen]
    exact ⟨[⟨4, text, 0, p⟩], ⟨⟨rfl, rfl, rfl⟩, trivial⟩, prel_item hP hp hsk hI, good_item s p I op hp hG _ hI⟩
  · have hlt : leafText kind text.data.toList = text.data.toList := by rw [leafText, if_neg (by omega)]
    rw [hlt] at hdr ⊢
    have hwn := wordN_text hdr h1 hde
    have hex := extract_text hdr
    have hne : text.data.toList ≠ [] := by
      intro e
      rw [e] at h2
      have : (0 : Int) = kind := h2
      omega
    obtain ⟨c, r, hcr⟩ := List.exists_cons_of_ne_nil hne
    have hdr' := hdr
    rw [hcr, List.cons_append] at hdr'
    obtain ⟨hp, hc, _⟩ := at_drop hdr'
    have hwb : Sx.wb c = true := List.all_eq_true.1 h1 c (by rw [hcr]; simp)
    have hby := wb_byte c hwb
    rw [← hc] at hby
    have htx : (⟨text.data.toList.toArray⟩ : ByteArray) = text := mk_toList text
    have hI : itemF s ⟨p, I, op⟩ = .ok ⟨p + text.data.toList.length, bumpAt I op.getLast? ++ [⟨kind, text, 0, p⟩], op⟩ := by
      rw [itemF_eq s p I op hp, if_neg (by omega), if_neg (by omega), if_neg (by omega), hwn, hex, htx, h2, if_neg (by omega)]
      unfold addTo
      rw [if_neg (by show ¬ 256 < op.length; omega)]
    have hsk := skip_here hp (by omega)
    exact ⟨[⟨kind, text, 0, p⟩], ⟨⟨rfl, rfl, rfl⟩, trivial⟩, prel_item hP hp hsk hI, good_item s p I op hp hG _ hI⟩

/-- a list is read back, if what stands in it is -/
theorem one_list {d : Nat} {pos : Int} {sub : List It} {us : List (List UInt8)} (hM : Many d sub us) : One (d + 1) (⟨5, ⟨#[]⟩, us.length, pos⟩ :: sub) (listText us) := by
  intro s p I op post hdr hde hG hP hop
  have hlt : listText us ++ post = 40 :: (joined us ++ (41 :: post)) := by simp [listText]
  rw [hlt] at hdr
  obtain ⟨hp, hc, hdr2⟩ := at_drop hdr
  have hcn : s[p].toNat = 40 := by rw [hc]; rfl
  have hI : itemF s ⟨p, I, op⟩ = .ok ⟨p + 1, bumpAt I op.getLast? ++ [⟨5, ⟨#[]⟩, 0, p⟩], op ++ [I.length]⟩ := by
    rw [itemF_eq s p I op hp, if_neg (by omega), if_pos hcn]
    unfold addTo
    rw [if_neg (by show ¬ 256 < op.length; omega)]
    simp [bump_len]
  have hP1 := prel_item hP hp (skip_here hp (by omega)) hI
  have hG1 := good_item s p I op hp hG _ hI
  obtain ⟨its', hS, hP2, hG2⟩ := hM s (p + 1) _ (op ++ [I.length]) (41 :: post) hdr2 ⟨post, rfl⟩ hG1 hP1 (by rw [List.length_append, List.length_singleton]; omega)
  have hbn : bumpN (bumpAt I op.getLast? ++ [⟨5, ⟨#[]⟩, 0, p⟩]) (op ++ [I.length]).getLast? us.length = bumpAt I op.getLast? ++ [⟨5, ⟨#[]⟩, us.length, p⟩] := by
    have hl := bump_len I op.getLast?
    rw [List.getLast?_concat, ← hl, bumpN_last, Int.zero_add]
  rw [hbn] at hP2 hG2
  have hdr3 : s.data.toList.drop (p + 1 + (joined us).length) = 41 :: post := by
    have := congrArg (List.drop (joined us).length) hdr2
    rw [List.drop_drop, List.drop_left] at this
    exact this
  obtain ⟨hp3, hc3, _⟩ := at_drop hdr3
  have hcn3 : s[p + 1 + (joined us).length].toNat = 41 := by rw [hc3]; rfl
  have hI3 : itemF s ⟨p + 1 + (joined us).length, bumpAt I op.getLast? ++ [⟨5, ⟨#[]⟩, us.length, p⟩] ++ its', op ++ [I.length]⟩ = .ok ⟨p + 1 + (joined us).length + 1, bumpAt I op.getLast? ++ [⟨5, ⟨#[]⟩, us.length, p⟩] ++ its', op⟩ := by
    rw [itemF_eq _ _ _ _ hp3, if_pos hcn3, if_neg (by simp), List.dropLast_concat]
  have hP4 := prel_item hP2 hp3 (skip_here hp3 (by omega)) hI3
  have hG4 := good_item s _ _ _ hp3 hG2 _ hI3
  have hlen : p + (listText us).length = p + 1 + (joined us).length + 1 := by simp [listText]; omega
  rw [hlen]
  have happ : bumpAt I op.getLast? ++ [⟨5, ⟨#[]⟩, us.length, p⟩] ++ its' = bumpAt I op.getLast? ++ (⟨5, ⟨#[]⟩, us.length, p⟩ :: its') := by simp
  rw [happ] at hP4 hG4
  exact ⟨⟨5, ⟨#[]⟩, us.length, p⟩ :: its', ⟨⟨rfl, rfl, rfl⟩, hS⟩, hP4, hG4⟩

theorem For.none {d : Nat} {its : List It} {ts : List (List UInt8)} (h : For d its ts) (ht : ts = []) : its = [] := by
  cases h with
  | nil => rfl
  | leaf => cases ht
  | list => cases ht
theorem many_cons {d : Nat} {it r : List It} {t : List UInt8} {ts : List (List UInt8)} (h1 : One d it t) (hM : Many d r ts) (hr : ts = [] → r = []) : Many d (it ++ r) (t :: ts) := by
  intro s p I op post hdr hpo hG hP hop
  cases ts with
  | nil =>
    obtain rfl := hr rfl
    obtain ⟨q, rfl⟩ := hpo
    obtain ⟨its', hS, hP1, hG1⟩ := h1 s p I op (41 :: q) hdr (fun c r e => by injection e with e1 _; subst e1; right; left; rfl) hG hP hop
    exact ⟨its', by rw [List.append_nil]; exact hS, hP1, hG1⟩
  | cons u us =>
    have hj : joined (t :: u :: us) = t ++ 32 :: joined (u :: us) := rfl
    rw [hj] at hdr ⊢
    rw [List.append_assoc, List.cons_append] at hdr
    obtain ⟨its1, hS1, hP1, hG1⟩ := h1 s p I op (32 :: (joined (u :: us) ++ post)) hdr (fun c r e => by injection e with e1 _; subst e1; left; rfl) hG hP hop
    have hdr2 : s.data.toList.drop (p + t.length) = 32 :: (joined (u :: us) ++ post) := by
      have := congrArg (List.drop t.length) hdr
      rwa [List.drop_drop, List.drop_left] at this
    obtain ⟨hp2, hc2, hdr3⟩ := at_drop hdr2
    have hP2 := prel_move hP1 (skipTo_white s (p + t.length) hp2 (by left; rw [hc2]; rfl))
    have hG2 := hG1.mono (show p + t.length ≤ p + t.length + 1 by omega)
    obtain ⟨its2, hS2, hP3, hG3⟩ := hM s (p + t.length + 1) _ op post hdr3 hpo hG2 hP2 hop
    have hb : ∀ i, op.getLast? = some i → i < (bumpAt I op.getLast?).length := fun i e => by
      rw [bump_len]; exact hG.inop i (List.mem_of_getLast? e)
    rw [bumpN_app _ _ _ hb, List.append_assoc] at hP3 hG3
    have hlen : p + (t ++ 32 :: joined (u :: us)).length = p + t.length + 1 + (joined (u :: us)).length := by simp; omega
    rw [hlen]
    exact ⟨its1 ++ its2, hS1.append hS2, hP3, hG3⟩
theorem For.many {d : Nat} {its : List It} {ts : List (List UInt8)} (h : For d its ts) : Many d its ts := by
  induction h with
  | nil d =>
    intro s p I op post hdr hpo hG hP hop
    refine ⟨[], trivial, ?_, ?_⟩
    · rw [List.append_nil]; exact hP
    · rw [List.append_nil]; exact hG
  | @leaf d kind pos text its ts hk h ih => exact many_cons (it := [⟨kind, text, 0, pos⟩]) (one_leaf hk) ih (fun e => h.none e)
  | @list d pos sub its us ts hs h ih1 ih2 =>
    have := many_cons (it := ⟨5, ⟨#[]⟩, us.length, pos⟩ :: sub) (one_list ih1) ih2 (fun e => h.none e)
    exact this

def linesB (ts : List (List UInt8)) : List UInt8 := ts.flatMap fun t => t ++ [10]
/-- item after item, each on a line -/
def Lns (d : Nat) (its : List It) (ts : List (List UInt8)) : Prop :=
  ∀ (s : ByteArray) (p : Nat) (I : List It) (post : List UInt8), s.data.toList.drop p = linesB ts ++ post → Good p I [] → PRel s p I [] → d ≤ 256 →
    ∃ its', Same its its' ∧ PRel s (p + (linesB ts).length) (I ++ its') [] ∧ Good (p + (linesB ts).length) (I ++ its') []
theorem lns_cons {d : Nat} {it r : List It} {t : List UInt8} {ts : List (List UInt8)} (h1 : One d it t) (hM : Lns d r ts) : Lns d (it ++ r) (t :: ts) := by
  intro s p I post hdr hG hP hd
  have hj : linesB (t :: ts) = t ++ 10 :: linesB ts := by simp [linesB]
  rw [hj] at hdr ⊢
  rw [List.append_assoc, List.cons_append] at hdr
  obtain ⟨its1, hS1, hP1, hG1⟩ := h1 s p I [] (10 :: (linesB ts ++ post)) hdr (fun c r e => by injection e with e1 _; subst e1; right; right; rfl) hG hP (by simpa using hd)
  have hdr2 : s.data.toList.drop (p + t.length) = 10 :: (linesB ts ++ post) := by
    have := congrArg (List.drop t.length) hdr
    rwa [List.drop_drop, List.drop_left] at this
  obtain ⟨hp2, hc2, hdr3⟩ := at_drop hdr2
  have hP2 := prel_move hP1 (skipTo_white s (p + t.length) hp2 (by right; right; right; rw [hc2]; rfl))
  have hG2 := hG1.mono (show p + t.length ≤ p + t.length + 1 by omega)
  obtain ⟨its2, hS2, hP3, hG3⟩ := hM s (p + t.length + 1) _ post hdr3 hG2 hP2 hd
  have hlen : p + (t ++ 10 :: linesB ts).length = p + t.length + 1 + (linesB ts).length := by simp; omega
  rw [hlen]
  refine ⟨its1 ++ its2, hS1.append hS2, ?_, ?_⟩
  · rw [← List.append_assoc]; exact hP3
  · rw [← List.append_assoc]; exact hG3
theorem For.lns {d : Nat} {its : List It} {ts : List (List UInt8)} (h : For d its ts) : Lns d its ts := by
  induction h with
  | nil d =>
    intro s p I post hdr hG hP hd
    refine ⟨[], trivial, ?_, ?_⟩
    · rw [List.append_nil]; exact hP
    · rw [List.append_nil]; exact hG
  | @leaf d kind pos text its ts hk h ih => exact lns_cons (it := [⟨kind, text, 0, pos⟩]) (one_leaf hk) ih
  | @list d pos sub its us ts hs h ih1 ih2 =>
    have := lns_cons (it := ⟨5, ⟨#[]⟩, us.length, pos⟩ :: sub) (one_list hs.many) ih2
    exact this
/-- a formatted sequence is parsed back -/
theorem For.parse {d : Nat} {its : List It} {ts : List (List UInt8)} (h : For d its ts) (hd : d ≤ 256) (hz : (linesB ts).length ≤ 65536) : ∃ its', Same its its' ∧ parseT ⟨(linesB ts).toArray⟩ = (its', 0, 0) := by
  have hs : (⟨(linesB ts).toArray⟩ : ByteArray).size = (linesB ts).length := by show (linesB ts).toArray.size = _; simp
  obtain ⟨its', hS, hP, _⟩ := h.lns ⟨(linesB ts).toArray⟩ 0 [] [] (by simp) ((good_nil 0).mono (Nat.zero_le _)) (prel_start _) hd
  refine ⟨its', hS, ?_⟩
  have := prel_end hP (by rw [hs]; omega) (by rw [hs]; omega)
  rw [this, if_pos rfl]; rfl
end Go.Proofs.YtmmohhaolgblkaaDoor

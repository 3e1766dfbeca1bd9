/- Compare is a total order (plain). -/
import Derived.Test.YtapdbeaoakcjeaaGreatDoorCYA
import Derived.Test.YtapdbeaoakcjeaaGreatDoorCVM
namespace Go.Proofs.YtapdbeaoakcjeaaGreatDoor.Se
open Go.RowKit Nmx

/-- a comparison that is a total order -/
structure OrdC {α : Type} (f : α → α → Int) : Prop where
  zero : ∀ a b, f a b = 0 → a = b
  refl : ∀ a, f a a = 0
  anti : ∀ a b, f a b = - f b a
  tr : ∀ a b c, f a b ≤ 0 → f b c ≤ 0 → f a c ≤ 0
theorem ordI : OrdC cmpI := by
  refine ⟨fun a b h => ?_, fun a => ?_, fun a b => ?_, fun a b c h1 h2 => ?_⟩
  · unfold cmpI at h; split at h; cases h; split at h; cases h; omega
  · unfold cmpI; rw [if_neg (by omega), if_neg (by omega)]
  · unfold cmpI; repeat' split
    all_goals omega
  · unfold cmpI at *; repeat' split
    all_goals (repeat' split at h1)
    all_goals (repeat' split at h2)
    all_goals omega
theorem cb_zero : ∀ a b : List UInt8, Lib.compareBytes a b = 0 → a = b := by
  intro a
  induction a with
  | nil => intro b h; cases b; rfl; cases h
  | cons x a ih =>
    intro b h;cases b with
    | nil => cases h
    | cons y b =>
      have h' : (if x < y then (-1 : Int) else if y < x then 1 else Lib.compareBytes a b) = 0 := h
      split at h'; cases h'; split at h'; cases h'
      rename_i h1 h2
      rw [UInt8.le_antisymm (UInt8.not_lt.1 h2) (UInt8.not_lt.1 h1), ih b h']
theorem cb_refl : ∀ a : List UInt8, Lib.compareBytes a a = 0 := by
  intro a
  induction a with
  | nil => rfl
  | cons x a ih =>
    show (if x < x then (-1 : Int) else if x < x then 1 else Lib.compareBytes a a) = 0;rw [if_neg (UInt8.lt_irrefl x), if_neg (UInt8.lt_irrefl x), ih]
theorem cb_anti : ∀ a b : List UInt8, Lib.compareBytes a b = - Lib.compareBytes b a := by
  intro a
  induction a with
  | nil => intro b; cases b <;> rfl
  | cons x a ih =>
    intro b;cases b with
    | nil => rfl
    | cons y b =>
      show (if x < y then (-1 : Int) else if y < x then 1 else Lib.compareBytes a b) = - (if y < x then (-1 : Int) else if x < y then 1 else Lib.compareBytes b a)
      by_cases h1 : x < y
      · rw [if_pos h1, if_neg (UInt8.lt_asymm h1), if_pos h1]
      · by_cases h2 : y < x
        · rw [if_neg h1, if_pos h2, if_pos h2]; rfl
        · rw [if_neg h1, if_neg h2, if_neg h2, if_neg h1, ih b]
theorem cb_tr : ∀ a b c : List UInt8, Lib.compareBytes a b ≤ 0 → Lib.compareBytes b c ≤ 0 → Lib.compareBytes a c ≤ 0 := by
  intro a
  induction a with
  | nil => intro b c _ _; cases c; exact Int.le_refl 0; show (-1 : Int) ≤ 0; decide
  | cons x a ih =>
    intro b c h1 h2;cases b with
    | nil => exact absurd h1 (by show ¬ (1 : Int) ≤ 0; decide)
    | cons y b =>
      cases c with
      | nil => exact absurd h2 (by show ¬ (1 : Int) ≤ 0; decide)
      | cons z c =>
        have h1' : (if x < y then (-1 : Int) else if y < x then 1 else Lib.compareBytes a b) ≤ 0 := h1;have h2' : (if y < z then (-1 : Int) else if z < y then 1 else Lib.compareBytes b c) ≤ 0 := h2;show (if x < z then (-1 : Int) else if z < x then 1 else Lib.compareBytes a c) ≤ 0
        by_cases xy : x < y
        · by_cases yz : y < z
          · rw [if_pos (UInt8.lt_trans xy yz)]; decide
          · rw [if_neg yz] at h2'
            by_cases zy : z < y
            · rw [if_pos zy] at h2'; exact absurd h2' (by decide)
            · rw [UInt8.le_antisymm (UInt8.not_lt.1 zy) (UInt8.not_lt.1 yz)] at xy;rw [if_pos xy]; decide
        · rw [if_neg xy] at h1'
          by_cases yx : y < x
          · rw [if_pos yx] at h1'; exact absurd h1' (by decide)
          · rw [if_neg yx] at h1';have e := UInt8.le_antisymm (UInt8.not_lt.1 yx) (UInt8.not_lt.1 xy);subst e
            by_cases yz : x < z
            · rw [if_pos yz]; decide
            · rw [if_neg yz] at h2' ⊢
              by_cases zy : z < x
              · rw [if_pos zy] at h2'; exact absurd h2' (by decide)
              · rw [if_neg zy] at h2' ⊢;exact ih b c h1' h2'
theorem cmpS_eq (a b : ByteArray) : cmpS a b = Lib.compareBytes a.toList b.toList := by rw [cmpS_bytes]; rfl
theorem ordS : OrdC cmpS := by
  refine ⟨fun a b h => ?_, fun a => ?_, fun a b => ?_, fun a b c h1 h2 => ?_⟩
  · rw [cmpS_eq] at h; exact (bytes_of (cb_zero _ _ h)).trans (bytes_of rfl).symm
  · rw [cmpS_eq]; exact cb_refl _
  · rw [cmpS_eq, cmpS_eq]; exact cb_anti _ _
  · rw [cmpS_eq] at *; exact cb_tr _ _ _ h1 h2
/-- first by f, then by h -/
theorem ord_lex {α β : Type} {f : α → α → Int} {h : β → β → Int} (hf : OrdC f) (hh : OrdC h) : OrdC (fun (p q : α × β) => if f p.1 q.1 = 0 then h p.2 q.2 else f p.1 q.1) := by
  refine ⟨fun p q e => ?_, fun p => ?_, fun p q => ?_, fun p q r h1 h2 => ?_⟩
  · split at e
    · rename_i e1; exact Prod.ext (hf.zero _ _ e1) (hh.zero _ _ e)
    · rename_i e1; exact absurd e e1
  · simp only [hf.refl, if_true]; exact hh.refl _
  · have ha := hf.anti p.1 q.1
    by_cases e : f p.1 q.1 = 0
    · rw [if_pos e, if_pos (by omega)]; exact hh.anti _ _
    · rw [if_neg e, if_neg (by omega)]; exact ha
  · by_cases e1 : f p.1 q.1 = 0
    · rw [if_pos e1] at h1;have := hf.zero _ _ e1;rw [this]
      by_cases e2 : f q.1 r.1 = 0
      · rw [if_pos e2] at h2 ⊢; exact hh.tr _ _ _ h1 h2
      · rw [if_neg e2] at h2 ⊢; exact h2
    · rw [if_neg e1] at h1
      by_cases e2 : f q.1 r.1 = 0
      · have := hf.zero _ _ e2;rw [← this, if_neg e1]; exact h1
      · rw [if_neg e2] at h2;have ht := hf.tr _ _ _ h1 h2
        by_cases e3 : f p.1 r.1 = 0
        · have := hf.zero _ _ e3;rw [← this] at h2;have := hf.anti p.1 q.1
          omega
        · rw [if_neg e3]; exact ht
theorem ord_map {α β : Type} {f : β → β → Int} (g : α → β) (hg : ∀ a b, g a = g b → a = b) (hf : OrdC f) : OrdC (fun a b => f (g a) (g b)) :=
  ⟨fun _ _ h => hg _ _ (hf.zero _ _ h), fun _ => hf.refl _, fun _ _ => hf.anti _ _, fun _ _ _ h1 h2 => hf.tr _ _ _ h1 h2⟩
theorem ordN : OrdC ndCmp := by
  have h := ord_map (fun x : Nd => (x.op, x.sort, x.name, x.num, x.kids)) (fun ⟨_, _, _, _, _⟩ ⟨_, _, _, _, _⟩ e => by
    simp only [Prod.mk.injEq] at e; obtain ⟨rfl, rfl, rfl, rfl, rfl⟩ := e; rfl) (ord_lex ordI (ord_lex ordI (ord_lex ordS (ord_lex ordS ordI))))
  have e : ndCmp = fun a b : Nd => if cmpI a.op b.op = 0 then (if cmpI a.sort b.sort = 0 then (if cmpS a.name b.name = 0 then (if cmpS a.num b.num = 0 then cmpI a.kids b.kids else cmpS a.num b.num) else cmpS a.name b.name) else cmpI a.sort b.sort) else cmpI a.op b.op := by
    funext a b
    show firstN [_, _, _, _, _] = _;simp only [firstN]
    repeat' split
    all_goals first | rfl | simp_all
  rw [e]; exact h
theorem ordT : OrdC tsCmp := by
  refine ⟨?_, ?_, ?_, ?_⟩
  · intro a
    induction a with
    | nil => intro b h; cases b; rfl; cases h
    | cons x a ih =>
      intro b h;cases b with
      | nil => cases h
      | cons y b =>
        have h' : (if ndCmp x y = 0 then tsCmp a b else ndCmp x y) = 0 := h
        split at h'
        · rename_i e; rw [ordN.zero _ _ e, ih b h']
        · rename_i e; exact absurd h' e
  · intro a
    induction a with
    | nil => rfl
    | cons x a ih => show (if ndCmp x x = 0 then tsCmp a a else _) = 0; rw [if_pos (ordN.refl x), ih]
  · intro a
    induction a with
    | nil => intro b; cases b <;> rfl
    | cons x a ih =>
      intro b;cases b with
      | nil => rfl
      | cons y b =>
        show (if ndCmp x y = 0 then tsCmp a b else ndCmp x y) = - (if ndCmp y x = 0 then tsCmp b a else ndCmp y x);have ha := ordN.anti x y
        by_cases e : ndCmp x y = 0
        · rw [if_pos e, if_pos (by omega), ih b]
        · rw [if_neg e, if_neg (by omega)]; exact ha
  · intro a
    induction a with
    | nil => intro b c _ _; cases c; exact Int.le_refl 0; show (-1 : Int) ≤ 0; decide
    | cons x a ih =>
      intro b c h1 h2;cases b with
      | nil => exact absurd h1 (by show ¬ (1 : Int) ≤ 0; decide)
      | cons y b =>
        cases c with
        | nil => exact absurd h2 (by show ¬ (1 : Int) ≤ 0; decide)
        | cons z c =>
          have h1' : (if ndCmp x y = 0 then tsCmp a b else ndCmp x y) ≤ 0 := h1;have h2' : (if ndCmp y z = 0 then tsCmp b c else ndCmp y z) ≤ 0 := h2;show (if ndCmp x z = 0 then tsCmp a c else ndCmp x z) ≤ 0
          by_cases e1 : ndCmp x y = 0
          · rw [if_pos e1] at h1';rw [ordN.zero _ _ e1]
            by_cases e2 : ndCmp y z = 0
            · rw [if_pos e2] at h2' ⊢; exact ih b c h1' h2'
            · rw [if_neg e2] at h2' ⊢; exact h2'
          · rw [if_neg e1] at h1'
            by_cases e2 : ndCmp y z = 0
            · rw [← ordN.zero _ _ e2, if_neg e1]; exact h1'
            · rw [if_neg e2] at h2';have ht := ordN.tr _ _ _ h1' h2'
              by_cases e3 : ndCmp x z = 0
              · have e4 := ordN.zero _ _ e3;rw [← e4] at h2';have := ordN.anti x y
                omega
              · rw [if_neg e3]; exact ht
end Go.Proofs.YtapdbeaoakcjeaaGreatDoor.Se
/- The law TermCompare: its walk. -/
namespace Go.Proofs.YtapdbeaoakcjeaaGreatDoor.Se
open Go.RowKit Nmx

theorem cmpI_r (a b : Int) : -1 ≤ cmpI a b ∧ cmpI a b ≤ 1 := by
  unfold cmpI
  repeat' split
  all_goals decide
theorem cmpS_r (a b : ByteArray) : -1 ≤ cmpS a b ∧ cmpS a b ≤ 1 := by
  unfold cmpS
  repeat' split
  all_goals decide
theorem argI_far {w w' : World} {ao : Option Addr} {len cap : Nat} (h : ArgI w ao len cap) (hb : Below w.heap.size w w') : ArgI w' ao len cap := by
  refine ⟨h.le, h.most, fun h0 => ?_⟩;obtain ⟨b, off, e, hlt, hx⟩ := h.rd h0;refine ⟨b, off, e, Nat.lt_of_lt_of_le hlt hb.size, fun t ht => ?_⟩;obtain ⟨x, hx⟩ := hx t ht;exact ⟨x, (hb.cell (p := ⟨b, off + t, none⟩) hlt).trans hx⟩
theorem firstN_r : ∀ l : List Int, (∀ c ∈ l, -1 ≤ c ∧ c ≤ 1) → -1 ≤ firstN l ∧ firstN l ≤ 1 := by
  intro l
  induction l with
  | nil => intro _; exact ⟨by decide, by decide⟩
  | cons c l ih =>
    intro h;simp only [firstN]
    split
    · exact ih (fun x hx => h x (List.mem_cons_of_mem _ hx))
    · exact h c (List.mem_cons_self ..)
theorem ndCmp_r (x y : Nd) : -1 ≤ ndCmp x y ∧ ndCmp x y ≤ 1 := firstN_r _ (fun c hc => by
  simp only [List.mem_cons, List.not_mem_nil, or_false] at hc;rcases hc with rfl | rfl | rfl | rfl | rfl
  · exact cmpI_r _ _
  · exact cmpI_r _ _
  · exact cmpS_r _ _
  · exact cmpS_r _ _
  · exact cmpI_r _ _)
theorem ts_r : ∀ a b : List Nd, -1 ≤ tsCmp a b ∧ tsCmp a b ≤ 1 := by
  intro a
  induction a with
  | nil => intro b; cases b with
    | nil => exact ⟨by decide, by decide⟩
    | cons y b => exact ⟨Int.le_refl _, by show (-1 : Int) ≤ 1; decide⟩
  | cons x a ih =>
    intro b;cases b with
    | nil => exact ⟨by show (-1 : Int) ≤ 1; decide, Int.le_refl _⟩
    | cons y b =>
      show -1 ≤ (if ndCmp x y = 0 then tsCmp a b else ndCmp x y) ∧ (if ndCmp x y = 0 then tsCmp a b else ndCmp x y) ≤ 1
      split
      · exact ih b
      · exact ndCmp_r x y
theorem ts_three (a b : List Nd) : tsCmp a b = -1 ∨ tsCmp a b = 0 ∨ tsCmp a b = 1 := by have := ts_r a b; omega
theorem Wth.few {ts : List Nd} (h : Wth ts) : ts.length ≤ 1000000 := by
  obtain ⟨t0, s, ht, h | ⟨-, h⟩ | ⟨-, q, -, h⟩ | ⟨-, h⟩⟩ := h
  · have := ht.le; rw [h]; omega
  · have := ht.le; rw [h, List.length_cons]; omega
  · have := ht.le; rw [h, List.length_cons, List.length_append, List.length_singleton]; omega
  · have := ht.le; rw [h, List.length_cons]; omega
section
set_option maxHeartbeats 16000000
set_option maxRecDepth 100000
theorem compare_law (ax bx : Option Addr) (ca cb : Nat) (ta tb : List Nd) (al am an : Option Addr) (ll cl lm cm ln cn : Nat) (w : World) (hEn : Env w) (ha : NodesO w ax ta) (hb : NodesO w bx tb) (hl : ArgI w al ll cl) (hm : ArgI w am lm cm) (hn : ArgI w an ln cn) :
    Calls Tryz.prog 3 #[.slice ax ta.length ca, .slice bx tb.length cb, .slice al ll cl, .slice am lm cm, .slice an ln cn] w fun e w' => e = .returned (.bool true) ∧ Below w.heap.size w w' := by
  by_cases hlen : ta.length ≤ 20 ∧ tb.length ≤ 20
  · obtain ⟨hla, hlb⟩ := hlen;have h1I : ¬ (20 : Int) < (ta.length : Int) := by omega
    have h2I : ¬ (20 : Int) < (tb.length : Int) := by omega
    have HEn := Lib.hid hEn;have HA := Lib.hid ha;have HB := Lib.hid hb;have HM := Lib.hid hm;have HN := Lib.hid hn;have hw1 := with_any al ll cl w hl;obtain ⟨n1, hn1⟩ : ∃ n, ta.length = n := ⟨_, rfl⟩
    obtain ⟨n2, hn2⟩ : ∃ n, tb.length = n := ⟨_, rfl⟩
    rw [hn1] at h1I hla ⊢;rw [hn2] at h2I hlb ⊢;have HN1 := Lib.hid hn1;have HN2 := Lib.hid hn2;clear hn1 hn2;clear ha hb hl hm hn hEn
    go_enter Tryz.func3, Tryz.ntmps3
    go_wp2_with fail
    refine (hw1).mono ?_;rintro e w1 ⟨gx, cx, tx, rfl, k1, k2, kt, kb⟩;have HB1 := Lib.hid (kb);have Hx := Lib.hid (k1.o k2);have fx := kt.few;obtain ⟨lx, hlx⟩ : ∃ l, tx.length = l := ⟨_, rfl⟩
    rw [hlx];have HLx := Lib.hid hlx;clear k1 k2 kt kb hlx
    go_wp2_with fail
    refine (with_any am lm cm w1 (argI_far HM.out HB1.out)).mono ?_;rintro e w2 ⟨gy, cy, ty, rfl, k1, k2, kt, kb⟩;have HB2 := Lib.hid (HB1.out.trans (kb.mono HB1.out.size));replace Hx := Lib.hid (Hx.out.below kb (Nat.le_refl _));have Hy := Lib.hid (k1.o k2);have fy := kt.few;obtain ⟨ly, hly⟩ : ∃ l, ty.length = l := ⟨_, rfl⟩
    rw [hly];have HLy := Lib.hid hly;clear k1 k2 kt kb hly
    go_wp2_with fail
    refine (with_any an ln cn w2 (argI_far HN.out HB2.out)).mono ?_;rintro e w3 ⟨gz, cz, tz, rfl, k1, k2, kt, kb⟩;have HB3 := Lib.hid (HB2.out.trans (kb.mono HB2.out.size));replace Hx := Lib.hid (Hx.out.below kb (Nat.le_refl _));replace Hy := Lib.hid (Hy.out.below kb (Nat.le_refl _));have Hz := Lib.hid (k1.o k2);have fz := kt.few;obtain ⟨lz, hlz⟩ : ∃ l, tz.length = l := ⟨_, rfl⟩
    rw [hlz];have HLz := Lib.hid hlz;clear k1 k2 kt kb hlz;obtain ⟨kab, hkab⟩ : ∃ c, tsCmp ta tb = c := ⟨_, rfl⟩
    have HKab := Lib.hid hkab;clear hkab hw1;rcases ts_three tx ty with h3 | h3 | h3
    · have hxy := Lib.hid h3;have hyx : Hid (tsCmp ty tx = 1) := Lib.hid (by have := ordT.anti tx ty; omega);have hxx : Hid (tsCmp tx tx = 0) := Lib.hid (ordT.refl tx);have htr : Hid (tsCmp ty tz ≤ 0 → tsCmp tx tz ≤ 0) := Lib.hid (fun h => ordT.tr tx ty tz (by omega) h);clear h3;have hq := termCompare_any (some ⟨gx, 0, none⟩) (some ⟨gy, 0, none⟩) cx cy tx ty w3 Hx.out Hy.out fx fy;rw [HLx.out, HLy.out] at hq;rw [hxy.out] at hq
      go_wp2_with fail
      refine hq.mono ?_;rintro e w4 ⟨rfl, kb⟩;have HB4 := Lib.hid (HB3.out.trans (kb.mono HB3.out.size));replace Hx := Lib.hid (Hx.out.below kb (Nat.le_refl _));replace Hy := Lib.hid (Hy.out.below kb (Nat.le_refl _));replace Hz := Lib.hid (Hz.out.below kb (Nat.le_refl _));clear kb hq;have hq := termCompare_any ax bx ca cb ta tb w4 (HA.out.below HB4.out (Nat.le_refl _)) (HB.out.below HB4.out (Nat.le_refl _)) (by rw [HN1.out]; omega) (by rw [HN2.out]; omega);rw [HN1.out, HN2.out, HKab.out] at hq
      go_wp2_with fail
      refine hq.mono ?_;rintro e w5 ⟨rfl, kb⟩;have HB5 := Lib.hid (HB4.out.trans (kb.mono HB4.out.size));replace Hx := Lib.hid (Hx.out.below kb (Nat.le_refl _));replace Hy := Lib.hid (Hy.out.below kb (Nat.le_refl _));replace Hz := Lib.hid (Hz.out.below kb (Nat.le_refl _));clear kb hq;have hq := refCompare_any ax bx ca cb ta tb w5 (HA.out.below HB5.out (Nat.le_refl _)) (HB.out.below HB5.out (Nat.le_refl _)) (by rw [HN1.out]; omega) (by rw [HN2.out]; omega);rw [HN1.out, HN2.out, HKab.out] at hq
      go_wp2_with fail
      refine hq.mono ?_;rintro e w6 ⟨rfl, kb⟩;have HB6 := Lib.hid (HB5.out.trans (kb.mono HB5.out.size));replace Hx := Lib.hid (Hx.out.below kb (Nat.le_refl _));replace Hy := Lib.hid (Hy.out.below kb (Nat.le_refl _));replace Hz := Lib.hid (Hz.out.below kb (Nat.le_refl _));clear kb hq;have hq := refCompare_any (some ⟨gx, 0, none⟩) (some ⟨gy, 0, none⟩) cx cy tx ty w6 Hx.out Hy.out fx fy;rw [HLx.out, HLy.out] at hq;rw [hxy.out] at hq
      go_wp2_with fail
      refine hq.mono ?_;rintro e w7 ⟨rfl, kb⟩;have HB7 := Lib.hid (HB6.out.trans (kb.mono HB6.out.size));replace Hx := Lib.hid (Hx.out.below kb (Nat.le_refl _));replace Hy := Lib.hid (Hy.out.below kb (Nat.le_refl _));replace Hz := Lib.hid (Hz.out.below kb (Nat.le_refl _));clear kb hq;have hq := termCompare_any (some ⟨gy, 0, none⟩) (some ⟨gx, 0, none⟩) cy cx ty tx w7 Hy.out Hx.out fy fx;rw [HLy.out, HLx.out] at hq;rw [hyx.out] at hq
      go_wp2_with fail
      refine hq.mono ?_;rintro e w8 ⟨rfl, kb⟩;have HB8 := Lib.hid (HB7.out.trans (kb.mono HB7.out.size));replace Hx := Lib.hid (Hx.out.below kb (Nat.le_refl _));replace Hy := Lib.hid (Hy.out.below kb (Nat.le_refl _));replace Hz := Lib.hid (Hz.out.below kb (Nat.le_refl _));clear kb hq;have hq := termCompare_any (some ⟨gx, 0, none⟩) (some ⟨gx, 0, none⟩) cx cx tx tx w8 Hx.out Hx.out fx fx;rw [HLx.out] at hq;rw [hxx.out] at hq
      go_wp2_with fail
      refine hq.mono ?_;rintro e w9 ⟨rfl, kb⟩;have HB9 := Lib.hid (HB8.out.trans (kb.mono HB8.out.size));replace Hx := Lib.hid (Hx.out.below kb (Nat.le_refl _));replace Hy := Lib.hid (Hy.out.below kb (Nat.le_refl _));replace Hz := Lib.hid (Hz.out.below kb (Nat.le_refl _));clear kb hq;rcases ts_three ty tz with h4 | h4 | h4
      iterate 2
        · have hyz := Lib.hid h4;have hle := htr.out (by omega);clear h4;have hq := termCompare_any (some ⟨gy, 0, none⟩) (some ⟨gz, 0, none⟩) cy cz ty tz w9 Hy.out Hz.out fy fz;rw [HLy.out, HLz.out] at hq;rw [hyz.out] at hq
          go_wp2_with fail
          refine hq.mono ?_;rintro e w10 ⟨rfl, kb⟩;have HB10 := Lib.hid (HB9.out.trans (kb.mono HB9.out.size));replace Hx := Lib.hid (Hx.out.below kb (Nat.le_refl _));replace Hy := Lib.hid (Hy.out.below kb (Nat.le_refl _));replace Hz := Lib.hid (Hz.out.below kb (Nat.le_refl _));clear kb hq;rcases ts_three tx tz with h5 | h5 | h5
          iterate 2
            · have hxz := Lib.hid h5;clear h5 hle;have hq := termCompare_any (some ⟨gx, 0, none⟩) (some ⟨gz, 0, none⟩) cx cz tx tz w10 Hx.out Hz.out fx fz;rw [HLx.out, HLz.out] at hq;rw [hxz.out] at hq
              go_wp2_with fail
              refine hq.mono ?_;rintro e w11 ⟨rfl, kb⟩;have HB11 := Lib.hid (HB10.out.trans (kb.mono HB10.out.size));replace Hx := Lib.hid (Hx.out.below kb (Nat.le_refl _));replace Hy := Lib.hid (Hy.out.below kb (Nat.le_refl _));replace Hz := Lib.hid (Hz.out.below kb (Nat.le_refl _));clear kb hq;have hq := refEqual_any (some ⟨gx, 0, none⟩) (some ⟨gy, 0, none⟩) cx cy tx ty w11 Hx.out Hy.out fx fy;rw [HLx.out, HLy.out] at hq;rw [hxy.out] at hq
              go_wp2_with fail
              refine hq.mono ?_;rintro e w12 ⟨rfl, kb⟩;have HB12 := Lib.hid (HB11.out.trans (kb.mono HB11.out.size));replace Hx := Lib.hid (Hx.out.below kb (Nat.le_refl _));replace Hy := Lib.hid (Hy.out.below kb (Nat.le_refl _));replace Hz := Lib.hid (Hz.out.below kb (Nat.le_refl _));clear kb hq
              go_wp2_with fail
              refine (awake_ok w12 (HEn.out.far HB12.out)).mono ?_;rintro e w13 ⟨rfl, kb⟩;have HB13 := Lib.hid (HB12.out.trans (kb.mono HB12.out.size));clear kb
              go_wp2
              go_ret
              exact ⟨rfl, HB13.out⟩
          · omega
      · have hyz := Lib.hid h4;clear h4;have hq := termCompare_any (some ⟨gy, 0, none⟩) (some ⟨gz, 0, none⟩) cy cz ty tz w9 Hy.out Hz.out fy fz;rw [HLy.out, HLz.out] at hq;rw [hyz.out] at hq
        go_wp2_with fail
        refine hq.mono ?_;rintro e w10 ⟨rfl, kb⟩;have HB10 := Lib.hid (HB9.out.trans (kb.mono HB9.out.size));replace Hx := Lib.hid (Hx.out.below kb (Nat.le_refl _));replace Hy := Lib.hid (Hy.out.below kb (Nat.le_refl _));replace Hz := Lib.hid (Hz.out.below kb (Nat.le_refl _));clear kb hq;have hq := refEqual_any (some ⟨gx, 0, none⟩) (some ⟨gy, 0, none⟩) cx cy tx ty w10 Hx.out Hy.out fx fy;rw [HLx.out, HLy.out] at hq;rw [hxy.out] at hq
        go_wp2_with fail
        refine hq.mono ?_;rintro e w11 ⟨rfl, kb⟩;have HB11 := Lib.hid (HB10.out.trans (kb.mono HB10.out.size));replace Hx := Lib.hid (Hx.out.below kb (Nat.le_refl _));replace Hy := Lib.hid (Hy.out.below kb (Nat.le_refl _));replace Hz := Lib.hid (Hz.out.below kb (Nat.le_refl _));clear kb hq
        go_wp2_with fail
        refine (awake_ok w11 (HEn.out.far HB11.out)).mono ?_;rintro e w12 ⟨rfl, kb⟩;have HB12 := Lib.hid (HB11.out.trans (kb.mono HB11.out.size));clear kb
        go_wp2
        go_ret
        exact ⟨rfl, HB12.out⟩
    · have hxy := Lib.hid h3;have hyx : Hid (tsCmp ty tx = 0) := Lib.hid (by have := ordT.anti tx ty; omega);have hxx : Hid (tsCmp tx tx = 0) := Lib.hid (ordT.refl tx);have htr : Hid (tsCmp ty tz ≤ 0 → tsCmp tx tz ≤ 0) := Lib.hid (fun h => ordT.tr tx ty tz (by omega) h);clear h3;have hq := termCompare_any (some ⟨gx, 0, none⟩) (some ⟨gy, 0, none⟩) cx cy tx ty w3 Hx.out Hy.out fx fy;rw [HLx.out, HLy.out] at hq;rw [hxy.out] at hq
      go_wp2_with fail
      refine hq.mono ?_;rintro e w4 ⟨rfl, kb⟩;have HB4 := Lib.hid (HB3.out.trans (kb.mono HB3.out.size));replace Hx := Lib.hid (Hx.out.below kb (Nat.le_refl _));replace Hy := Lib.hid (Hy.out.below kb (Nat.le_refl _));replace Hz := Lib.hid (Hz.out.below kb (Nat.le_refl _));clear kb hq;have hq := termCompare_any ax bx ca cb ta tb w4 (HA.out.below HB4.out (Nat.le_refl _)) (HB.out.below HB4.out (Nat.le_refl _)) (by rw [HN1.out]; omega) (by rw [HN2.out]; omega);rw [HN1.out, HN2.out, HKab.out] at hq
      go_wp2_with fail
      refine hq.mono ?_;rintro e w5 ⟨rfl, kb⟩;have HB5 := Lib.hid (HB4.out.trans (kb.mono HB4.out.size));replace Hx := Lib.hid (Hx.out.below kb (Nat.le_refl _));replace Hy := Lib.hid (Hy.out.below kb (Nat.le_refl _));replace Hz := Lib.hid (Hz.out.below kb (Nat.le_refl _));clear kb hq;have hq := refCompare_any ax bx ca cb ta tb w5 (HA.out.below HB5.out (Nat.le_refl _)) (HB.out.below HB5.out (Nat.le_refl _)) (by rw [HN1.out]; omega) (by rw [HN2.out]; omega);rw [HN1.out, HN2.out, HKab.out] at hq
      go_wp2_with fail
      refine hq.mono ?_;rintro e w6 ⟨rfl, kb⟩;have HB6 := Lib.hid (HB5.out.trans (kb.mono HB5.out.size));replace Hx := Lib.hid (Hx.out.below kb (Nat.le_refl _));replace Hy := Lib.hid (Hy.out.below kb (Nat.le_refl _));replace Hz := Lib.hid (Hz.out.below kb (Nat.le_refl _));clear kb hq;have hq := refCompare_any (some ⟨gx, 0, none⟩) (some ⟨gy, 0, none⟩) cx cy tx ty w6 Hx.out Hy.out fx fy;rw [HLx.out, HLy.out] at hq;rw [hxy.out] at hq
      go_wp2_with fail
      refine hq.mono ?_;rintro e w7 ⟨rfl, kb⟩;have HB7 := Lib.hid (HB6.out.trans (kb.mono HB6.out.size));replace Hx := Lib.hid (Hx.out.below kb (Nat.le_refl _));replace Hy := Lib.hid (Hy.out.below kb (Nat.le_refl _));replace Hz := Lib.hid (Hz.out.below kb (Nat.le_refl _));clear kb hq;have hq := termCompare_any (some ⟨gy, 0, none⟩) (some ⟨gx, 0, none⟩) cy cx ty tx w7 Hy.out Hx.out fy fx;rw [HLy.out, HLx.out] at hq;rw [hyx.out] at hq
      go_wp2_with fail
      refine hq.mono ?_;rintro e w8 ⟨rfl, kb⟩;have HB8 := Lib.hid (HB7.out.trans (kb.mono HB7.out.size));replace Hx := Lib.hid (Hx.out.below kb (Nat.le_refl _));replace Hy := Lib.hid (Hy.out.below kb (Nat.le_refl _));replace Hz := Lib.hid (Hz.out.below kb (Nat.le_refl _));clear kb hq;have hq := termCompare_any (some ⟨gx, 0, none⟩) (some ⟨gx, 0, none⟩) cx cx tx tx w8 Hx.out Hx.out fx fx;rw [HLx.out] at hq;rw [hxx.out] at hq
      go_wp2_with fail
      refine hq.mono ?_;rintro e w9 ⟨rfl, kb⟩;have HB9 := Lib.hid (HB8.out.trans (kb.mono HB8.out.size));replace Hx := Lib.hid (Hx.out.below kb (Nat.le_refl _));replace Hy := Lib.hid (Hy.out.below kb (Nat.le_refl _));replace Hz := Lib.hid (Hz.out.below kb (Nat.le_refl _));clear kb hq;rcases ts_three ty tz with h4 | h4 | h4
      iterate 2
        · have hyz := Lib.hid h4;have hle := htr.out (by omega);clear h4;have hq := termCompare_any (some ⟨gy, 0, none⟩) (some ⟨gz, 0, none⟩) cy cz ty tz w9 Hy.out Hz.out fy fz;rw [HLy.out, HLz.out] at hq;rw [hyz.out] at hq
          go_wp2_with fail
          refine hq.mono ?_;rintro e w10 ⟨rfl, kb⟩;have HB10 := Lib.hid (HB9.out.trans (kb.mono HB9.out.size));replace Hx := Lib.hid (Hx.out.below kb (Nat.le_refl _));replace Hy := Lib.hid (Hy.out.below kb (Nat.le_refl _));replace Hz := Lib.hid (Hz.out.below kb (Nat.le_refl _));clear kb hq;rcases ts_three tx tz with h5 | h5 | h5
          iterate 2
            · have hxz := Lib.hid h5;clear h5 hle;have hq := termCompare_any (some ⟨gx, 0, none⟩) (some ⟨gz, 0, none⟩) cx cz tx tz w10 Hx.out Hz.out fx fz;rw [HLx.out, HLz.out] at hq;rw [hxz.out] at hq
              go_wp2_with fail
              refine hq.mono ?_;rintro e w11 ⟨rfl, kb⟩;have HB11 := Lib.hid (HB10.out.trans (kb.mono HB10.out.size));replace Hx := Lib.hid (Hx.out.below kb (Nat.le_refl _));replace Hy := Lib.hid (Hy.out.below kb (Nat.le_refl _));replace Hz := Lib.hid (Hz.out.below kb (Nat.le_refl _));clear kb hq;have hq := refEqual_any (some ⟨gx, 0, none⟩) (some ⟨gy, 0, none⟩) cx cy tx ty w11 Hx.out Hy.out fx fy;rw [HLx.out, HLy.out] at hq;rw [hxy.out] at hq
              go_wp2_with fail
              refine hq.mono ?_;rintro e w12 ⟨rfl, kb⟩;have HB12 := Lib.hid (HB11.out.trans (kb.mono HB11.out.size));replace Hx := Lib.hid (Hx.out.below kb (Nat.le_refl _));replace Hy := Lib.hid (Hy.out.below kb (Nat.le_refl _));replace Hz := Lib.hid (Hz.out.below kb (Nat.le_refl _));clear kb hq
              go_wp2_with fail
              refine (awake_ok w12 (HEn.out.far HB12.out)).mono ?_;rintro e w13 ⟨rfl, kb⟩;have HB13 := Lib.hid (HB12.out.trans (kb.mono HB12.out.size));clear kb
              go_wp2
              go_ret
              exact ⟨rfl, HB13.out⟩
          · omega
      · have hyz := Lib.hid h4;clear h4;have hq := termCompare_any (some ⟨gy, 0, none⟩) (some ⟨gz, 0, none⟩) cy cz ty tz w9 Hy.out Hz.out fy fz;rw [HLy.out, HLz.out] at hq;rw [hyz.out] at hq
        go_wp2_with fail
        refine hq.mono ?_;rintro e w10 ⟨rfl, kb⟩;have HB10 := Lib.hid (HB9.out.trans (kb.mono HB9.out.size));replace Hx := Lib.hid (Hx.out.below kb (Nat.le_refl _));replace Hy := Lib.hid (Hy.out.below kb (Nat.le_refl _));replace Hz := Lib.hid (Hz.out.below kb (Nat.le_refl _));clear kb hq;have hq := refEqual_any (some ⟨gx, 0, none⟩) (some ⟨gy, 0, none⟩) cx cy tx ty w10 Hx.out Hy.out fx fy;rw [HLx.out, HLy.out] at hq;rw [hxy.out] at hq
        go_wp2_with fail
        refine hq.mono ?_;rintro e w11 ⟨rfl, kb⟩;have HB11 := Lib.hid (HB10.out.trans (kb.mono HB10.out.size));replace Hx := Lib.hid (Hx.out.below kb (Nat.le_refl _));replace Hy := Lib.hid (Hy.out.below kb (Nat.le_refl _));replace Hz := Lib.hid (Hz.out.below kb (Nat.le_refl _));clear kb hq
        go_wp2_with fail
        refine (awake_ok w11 (HEn.out.far HB11.out)).mono ?_;rintro e w12 ⟨rfl, kb⟩;have HB12 := Lib.hid (HB11.out.trans (kb.mono HB11.out.size));clear kb
        go_wp2
        go_ret
        exact ⟨rfl, HB12.out⟩
    · have hxy := Lib.hid h3;have hyx : Hid (tsCmp ty tx = -1) := Lib.hid (by have := ordT.anti tx ty; omega);have hxx : Hid (tsCmp tx tx = 0) := Lib.hid (ordT.refl tx);clear h3;have hq := termCompare_any (some ⟨gx, 0, none⟩) (some ⟨gy, 0, none⟩) cx cy tx ty w3 Hx.out Hy.out fx fy;rw [HLx.out, HLy.out] at hq;rw [hxy.out] at hq
      go_wp2_with fail
      refine hq.mono ?_;rintro e w4 ⟨rfl, kb⟩;have HB4 := Lib.hid (HB3.out.trans (kb.mono HB3.out.size));replace Hx := Lib.hid (Hx.out.below kb (Nat.le_refl _));replace Hy := Lib.hid (Hy.out.below kb (Nat.le_refl _));replace Hz := Lib.hid (Hz.out.below kb (Nat.le_refl _));clear kb hq;have hq := termCompare_any ax bx ca cb ta tb w4 (HA.out.below HB4.out (Nat.le_refl _)) (HB.out.below HB4.out (Nat.le_refl _)) (by rw [HN1.out]; omega) (by rw [HN2.out]; omega);rw [HN1.out, HN2.out, HKab.out] at hq
      go_wp2_with fail
      refine hq.mono ?_;rintro e w5 ⟨rfl, kb⟩;have HB5 := Lib.hid (HB4.out.trans (kb.mono HB4.out.size));replace Hx := Lib.hid (Hx.out.below kb (Nat.le_refl _));replace Hy := Lib.hid (Hy.out.below kb (Nat.le_refl _));replace Hz := Lib.hid (Hz.out.below kb (Nat.le_refl _));clear kb hq;have hq := refCompare_any ax bx ca cb ta tb w5 (HA.out.below HB5.out (Nat.le_refl _)) (HB.out.below HB5.out (Nat.le_refl _)) (by rw [HN1.out]; omega) (by rw [HN2.out]; omega);rw [HN1.out, HN2.out, HKab.out] at hq
      go_wp2_with fail
      refine hq.mono ?_;rintro e w6 ⟨rfl, kb⟩;have HB6 := Lib.hid (HB5.out.trans (kb.mono HB5.out.size));replace Hx := Lib.hid (Hx.out.below kb (Nat.le_refl _));replace Hy := Lib.hid (Hy.out.below kb (Nat.le_refl _));replace Hz := Lib.hid (Hz.out.below kb (Nat.le_refl _));clear kb hq;have hq := refCompare_any (some ⟨gx, 0, none⟩) (some ⟨gy, 0, none⟩) cx cy tx ty w6 Hx.out Hy.out fx fy;rw [HLx.out, HLy.out] at hq;rw [hxy.out] at hq
      go_wp2_with fail
      refine hq.mono ?_;rintro e w7 ⟨rfl, kb⟩;have HB7 := Lib.hid (HB6.out.trans (kb.mono HB6.out.size));replace Hx := Lib.hid (Hx.out.below kb (Nat.le_refl _));replace Hy := Lib.hid (Hy.out.below kb (Nat.le_refl _));replace Hz := Lib.hid (Hz.out.below kb (Nat.le_refl _));clear kb hq;have hq := termCompare_any (some ⟨gy, 0, none⟩) (some ⟨gx, 0, none⟩) cy cx ty tx w7 Hy.out Hx.out fy fx;rw [HLy.out, HLx.out] at hq;rw [hyx.out] at hq
      go_wp2_with fail
      refine hq.mono ?_;rintro e w8 ⟨rfl, kb⟩;have HB8 := Lib.hid (HB7.out.trans (kb.mono HB7.out.size));replace Hx := Lib.hid (Hx.out.below kb (Nat.le_refl _));replace Hy := Lib.hid (Hy.out.below kb (Nat.le_refl _));replace Hz := Lib.hid (Hz.out.below kb (Nat.le_refl _));clear kb hq;have hq := termCompare_any (some ⟨gx, 0, none⟩) (some ⟨gx, 0, none⟩) cx cx tx tx w8 Hx.out Hx.out fx fx;rw [HLx.out] at hq;rw [hxx.out] at hq
      go_wp2_with fail
      refine hq.mono ?_;rintro e w9 ⟨rfl, kb⟩;have HB9 := Lib.hid (HB8.out.trans (kb.mono HB8.out.size));replace Hx := Lib.hid (Hx.out.below kb (Nat.le_refl _));replace Hy := Lib.hid (Hy.out.below kb (Nat.le_refl _));replace Hz := Lib.hid (Hz.out.below kb (Nat.le_refl _));clear kb hq;have hq := refEqual_any (some ⟨gx, 0, none⟩) (some ⟨gy, 0, none⟩) cx cy tx ty w9 Hx.out Hy.out fx fy;rw [HLx.out, HLy.out] at hq;rw [hxy.out] at hq
      go_wp2_with fail
      refine hq.mono ?_;rintro e w10 ⟨rfl, kb⟩;have HB10 := Lib.hid (HB9.out.trans (kb.mono HB9.out.size));replace Hx := Lib.hid (Hx.out.below kb (Nat.le_refl _));replace Hy := Lib.hid (Hy.out.below kb (Nat.le_refl _));replace Hz := Lib.hid (Hz.out.below kb (Nat.le_refl _));clear kb hq
      go_wp2_with fail
      refine (awake_ok w10 (HEn.out.far HB10.out)).mono ?_;rintro e w11 ⟨rfl, kb⟩;have HB11 := Lib.hid (HB10.out.trans (kb.mono HB10.out.size));clear kb
      go_wp2
      go_ret
      exact ⟨rfl, HB11.out⟩
  · have haw := awake_ok w hEn
    by_cases h1 : 20 < ta.length
    · clear ha hb hlen;generalize ta.length = n1 at *;generalize tb.length = n2 at *;have h1I : (20 : Int) < (n1 : Int) := by omega
      go_enter Tryz.func3, Tryz.ntmps3
      go_wp2_with fail
      refine haw.mono ?_;rintro e w1 ⟨rfl, hb1⟩;have HB := Lib.hid hb1;clear hb1 haw
      go_wp2
      go_ret
      exact ⟨rfl, HB.out⟩
    · have h2 : 20 < tb.length := by omega
      clear ha hb hlen;generalize ta.length = n1 at *;generalize tb.length = n2 at *;have h1I : ¬ (20 : Int) < (n1 : Int) := by omega
      have h2I : (20 : Int) < (n2 : Int) := by omega
      go_enter Tryz.func3, Tryz.ntmps3
      go_wp2_with fail
      refine haw.mono ?_;rintro e w1 ⟨rfl, hb1⟩;have HB := Lib.hid hb1;clear hb1 haw
      go_wp2
      go_ret
      exact ⟨rfl, HB.out⟩
end
end Go.Proofs.YtapdbeaoakcjeaaGreatDoor.Se

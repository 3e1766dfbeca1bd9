/- 'write' of a tree. -/
import Derived.Test.YtmmohhaolgblkaaDoorBJ
import Derived.Test.YtmmohhaolgblkaaDoorAU
namespace Go.Proofs.YtmmohhaolgblkaaDoor
open Go.RowKit

theorem builder_below {B b : Nat} {bs : List Value} {w w' : World} (h : Lib.IsBuilder 59 5 B b bs w) (hb : Below w.heap.size w w') : Lib.IsBuilder 59 5 B b bs w' := by
  have key : ∀ p, Lib.BuilderAt 59 5 B b p bs w → Lib.BuilderAt 59 5 B b p bs w' := by
    rintro p ⟨h1, u, h2, h3, h4⟩
    exact ⟨h1, u, (hb.block b (Array.getElem?_eq_some_iff.1 h2).1).trans h2, ownsRow_below h3 hb (fun g hg => (h3.lt g hg).2), h4⟩
  exact h.elim (fun x => .inl (key _ x)) (fun x => .inr (key _ x))

def WritePost (B b : Nat) (w : World) (acc u : List UInt8) (en : Nat) (e : Ending) (w' : World) : Prop :=
  e = .returned (.int .i64 en) ∧ Lib.IsBuilder 59 5 B b (Lib.byteCells (acc ++ u)) w' ∧ Below B w w'
theorem WritePost.of {B b : Nat} {w w' : World} {acc u acc' : List UInt8} {en : Nat} {n : Int} (hn : n = en) (ha : acc' = acc ++ u) (hd : Lib.IsBuilder 59 5 B b (Lib.byteCells acc') w') (hb : Below B w w') : WritePost B b w acc u en (.returned (.int .i64 n)) w' := by
  subst hn ha; exact ⟨rfl, hd, hb⟩

/-- the builder lies above the list -/
structure Wr (B b g : Nat) (m : Int) (its : List It) (acc : List UInt8) (w : World) : Prop where
  ls : Ls w g its
  gb : g < B
  b0 : 0 < B
  bd : Lib.IsBuilder 59 5 B b (Lib.byteCells acc) w
  bw : B ≤ w.heap.size
  mm : w.cell? ⟨0, 0, none⟩ = some (.int .i64 m)
theorem Wr.step {B b g : Nat} {m : Int} {its : List It} {acc acc' : List UInt8} {w w' : World} (h : Wr B b g m its acc w) (hb : Below B w w') (hd : Lib.IsBuilder 59 5 B b (Lib.byteCells acc') w') : Wr B b g m its acc' w' :=
  ⟨⟨h.ls.cells.below hb h.gb, Nat.lt_of_lt_of_le h.ls.lt hb.size, h.ls.few, h.ls.texts⟩, h.gb, h.b0, hd, Nat.le_trans h.bw hb.size, (hb.cell (p := ⟨0, 0, none⟩) h.b0).trans h.mm⟩

/-- one byte more -/
theorem put_any {B b g : Nat} {m : Int} {its : List It} {acc : List UInt8} {w : World} (h : Wr B b g m its acc w) (c : UInt8) (n : Int) (hn : n = c.toNat) (hl : acc.length ≤ 1000000) :
    Calls Tryd.prog 35 #[.pointer (some ⟨b, 0, none⟩), .int .u8 n] w fun e w' => e = .returned .nilIface ∧ Wr B b g m its (acc ++ [c]) w' ∧ Below B w w' := by
  subst hn
  refine (writeByte_any B b _ _ w h.bd (by rw [Lib.byteCells_length]; omega) h.bw).mono ?_
  rintro e w' ⟨he, hd, hb⟩
  exact ⟨he, h.step hb (by rw [Lib.byteCells_append]; exact hd), hb⟩
/-- a text more -/
theorem puts_any {B b g : Nat} {m : Int} {its : List It} {acc : List UInt8} {w : World} (h : Wr B b g m its acc w) (t : ByteArray) (hl : acc.length ≤ 1000000) (ht : t.size ≤ 1000000) :
    Calls Tryd.prog 50 #[.pointer (some ⟨b, 0, none⟩), .string t] w fun e w' => e = .returned (.tuple #[.int .i64 t.size, .nilIface]) ∧ Wr B b g m its (acc ++ t.data.toList) w' ∧ Below B w w' := by
  refine (writeString_any B b _ t w h.bd (by rw [Lib.byteCells_length]; omega) h.bw).mono ?_
  rintro e w' ⟨he, hd, hb⟩
  exact ⟨he, h.step hb (by rw [Lib.byteCells_append]; exact hd), hb⟩

set_option maxHeartbeats 2000000 in
set_option maxRecDepth 100000 in
theorem write_any (B b g cap : Nat) (m : Int) (its : List It) (E : List Nat) (X : List (List UInt8)) (hE : ∀ j, j < its.length → j < E.getD j 0) : ∀ (d i : Nat), Tree its E X d i → ∀ (acc : List UInt8) (w : World), acc.length + (X.getD i []).length ≤ 1000000 → Wr B b g m its acc w →
    Calls Tryd.prog 34 #[.pointer (some ⟨b, 0, none⟩), .slice (some ⟨g, 0, none⟩) its.length cap, .int .i64 i] w (WritePost B b w acc (X.getD i []) (E.getD i 0)) := by
  intro d i h
  induction h with
  | @leaf d i kind pos text hi hk he hx =>
    intro acc w hacc hW
    have hin : i < its.length := (List.getElem?_eq_some_iff.1 hi).1
    obtain ⟨c0, c1, c2, c3⟩ := hW.ls.get hi
    simp only at c0 c1 c2 c3
    have hts := hW.ls.texts _ (List.mem_of_getElem? hi)
    simp only at hts
    have hfew := hW.ls.few
    have g2 : (i : Int) < (its.length : Int) := by omega
    have g3 : (0 : Int) ≤ (i : Int) := by omega
    have hal : acc.length ≤ 1000000 := by omega
    have HW := Lib.hid hW
    have hk5 : kind ≠ 5 := by
      intro e; subst e
      simp [leafOk] at hk
    rw [hx, he]
    clear hW hi hk he hx hacc hE c2 c3
    by_cases h4 : kind = 4
    · subst h4
      have hcb := Lib.countB_le (⟨#[34]⟩ : ByteArray) (by decide) text.size text (Nat.le_refl _)
      have hra := Tryd.strings_ReplaceAll text ⟨#[34]⟩ ⟨#[34, 34]⟩ m w (by omega) HW.out.mm (by decide) (by
        rw [show (⟨#[34, 34]⟩ : ByteArray).size = 2 from rfl]; omega)
      have hrq : Lib.replaceAll text.data.toList [34] [34, 34] = quoted text.data.toList := replaceAll_quoted _
      have hra2 : Calls Tryd.prog 51 #[.string text, .string ⟨#[34]⟩, .string ⟨#[34, 34]⟩] w fun e w' => e = .returned (.string ⟨(quoted text.data.toList).toArray⟩) ∧ Below w.heap.size w w' := by
        have e := hra
        rw [show (⟨#[34]⟩ : ByteArray).data.toList = [34] from rfl, show (⟨#[34, 34]⟩ : ByteArray).data.toList = [34, 34] from rfl, hrq] at e
        exact e
      have hql := quoted_len text.data.toList
      rw [len_data] at hql
      have hcat : (⟨#[34]⟩ ++ ⟨(quoted text.data.toList).toArray⟩ ++ ⟨#[34]⟩ : ByteArray) = ⟨(leafText 4 text.data.toList).toArray⟩ := by
        rw [leafText, if_pos rfl, show (⟨#[34]⟩ : ByteArray) = ⟨([34] : List UInt8).toArray⟩ from rfl, ba_app, ba_app]; simp
      have hcl : (⟨(leafText 4 text.data.toList).toArray⟩ : ByteArray).size ≤ 1000000 := by
        show (leafText 4 text.data.toList).toArray.size ≤ 1000000
        rw [leafText, if_pos rfl]; simp; omega
      have HC := Lib.hid hcat
      clear hra hrq hcat hcb
      go_enter Tryd.func34, Tryd.ntmps34
      go_wp2_with (go_at_call 51; refine hra2.mono ?_; rintro e w1 ⟨rfl, hb1⟩)
      rw [HC.out]
      have hW1 := HW.out.step (hb1.mono HW.out.bw) (builder_below HW.out.bd hb1)
      have hBe := Lib.hid (hb1.mono HW.out.bw)
      clear hb1 hra2
      refine (puts_any hW1 _ hal hcl).mono ?_
      rintro e w2 ⟨rfl, hW2, hb2⟩
      have HW2 := Lib.hid hW2
      have HB2 := Lib.hid (hBe.out.trans hb2)
      clear hW1 hW2 hb2
      go_wp2_with fail
      go_ret
      exact WritePost.of (by omega) rfl HW2.out.bd HB2.out
    · have h4b : (kind == 4) = false := by simpa using h4
      have h5b : (kind == 5) = false := by simpa using hk5
      have hps := puts_any HW.out text hal (by omega)
      have HL : Hid (leafText kind text.data.toList = text.data.toList) := Lib.hid (by rw [leafText, if_neg h4])
      clear h4 hk5
      go_enter Tryd.func34, Tryd.ntmps34
      go_wp2_with (go_at_call 50; refine hps.mono ?_; rintro e w2 ⟨rfl, hW2, hb2⟩; have HW2 := Lib.hid hW2; have HB2 := Lib.hid hb2; clear hW2 hb2)
      go_ret
      exact WritePost.of (by omega) (by rw [HL.out]) HW2.out.bd HB2.out
  | @list d i k pos hi hl hs hb he hx ih =>
    intro acc w hacc hW
    have hin : i < its.length := (List.getElem?_eq_some_iff.1 hi).1
    obtain ⟨c0, c1, c2, c3⟩ := hW.ls.get hi
    simp only at c0 c1 c2 c3
    have hfew := hW.ls.few
    have g2 : (i : Int) < (its.length : Int) := by omega
    have g3 : (0 : Int) ≤ (i : Int) := by omega
    have hkn : k ≤ its.length := by
      have := trail_len E (i + 1) (E.getD i 0)
      rw [hl] at this; omega
    obtain ⟨us, hus⟩ : ∃ us, (trail E (i + 1) (E.getD i 0)).map (fun j => X.getD j []) = us := ⟨_, rfl⟩
    rw [hus] at hx
    rw [hx] at hacc ⊢
    have hjl : acc.length + (joined us).length + 2 ≤ 1000000 := by
      simp only [listText, List.length_cons, List.length_append, List.length_nil] at hacc
      omega
    obtain ⟨u, hu⟩ : ∃ u, E.getD i 0 = u := ⟨_, rfl⟩
    rw [hu] at hl hus hs hb he ih ⊢
    have hp1 := put_any hW 40 40 (by decide) (by omega)
    have HW := Lib.hid hW
    have HH := Lib.hid (And.intro hl (And.intro hus (And.intro hb ih)))
    have HE := Lib.hid hE
    have HI := Lib.hid hi
    obtain ⟨he1, he2⟩ := he
    clear hW hi hl hs hb hx ih hus hacc hE hu c1 c3
    go_enter Tryd.func34, Tryd.ntmps34
    go_wp2_with fail
    refine hp1.mono ?_
    rintro e w1 ⟨rfl, hW1, hb1⟩
    have d2 := (hW1.ls.get HI.out).2.2.1
    simp only at d2
    have HW1 := Lib.hid hW1
    have HB1 := Lib.hid hb1
    clear hW1 hb1 hp1
    go_wp2_with fail
    go_loopw [7, 32] (fun en kv wr => ∃ (q e : Nat), q ≤ k ∧ en = .int .i64 e ∧ kv = .int .i64 q ∧ (trail E (i + 1) u).drop q = trail E e u ∧ i + 1 ≤ e ∧ e ≤ u ∧ Wr B b g m its (acc ++ [40] ++ joined (us.take q)) wr ∧ Below B w wr) (fun _ kv _ => k - (intOf kv).toNat)
    case atStart => exact ⟨0, i + 1, Nat.zero_le _, by go_num, rfl, rfl, Nat.le_refl _, he1, by rw [List.take_zero]; simpa [joined] using HW1.out, HB1.out⟩
    case round =>
      obtain ⟨q, e, hq, rfl, rfl, hdr, hei, heu, hWq, hbel⟩ := hrel
      have HD := Lib.hid hdr
      have HWq := Lib.hid hWq
      have HBl := Lib.hid hbel
      have hjq := joined_mono us q
      have hl1 : (acc ++ [40] ++ joined (us.take q)).length = acc.length + 1 + (joined (us.take q)).length := by simp; omega
      clear hdr hWq hbel
      by_cases hlt : q < k
      · have hne : trail E e u ≠ [] := by
          rw [← HD.out]
          intro hn
          have := congrArg List.length hn
          rw [List.length_drop, HH.out.1] at this
          simp at this; omega
        have hlu : e < u := by
          rcases Nat.lt_or_ge e u with h | h
          · exact h
          · exact absurd (trail_stop (by omega)) hne
        have hst := trail_step (up1 := u) (fun j hj => HE.out j (by omega)) hlu rfl
        have hqe : (trail E (i + 1) u)[q]? = some e := by
          have := congrArg (fun l => l[0]?) (HD.out.trans hst)
          simpa using this
        have hmem : e ∈ trail E (i + 1) u := List.mem_of_getElem? hqe
        have huq : us[q]? = some (X.getD e []) := by rw [← HH.out.2.1, List.getElem?_map, hqe]; rfl
        have HJ := joined_take us q _ huq
        have hjq1 := joined_mono us (q + 1)
        have hih := HH.out.2.2.2 e hmem
        have hbe := HH.out.2.2.1 e hmem
        have hen := HE.out e (by omega)
        have HD2 : Hid ((trail E (i + 1) u).drop (q + 1) = trail E (E.getD e 0) u) := Lib.hid (by
          rw [← List.drop_drop, HD.out, hst]; rfl)
        clear hst hmem hne hqe huq
        generalize X.getD e [] = t at *
        generalize E.getD e 0 = f at *
        by_cases hq0 : q = 0
        · have hqp : ¬ (0 : Int) < (q : Int) := by omega
          rw [if_pos hq0] at HJ
          have hj2 : joined (us.take (q + 1)) = t := HJ
          have hj3 : joined (us.take q) = [] := by rw [hq0]; rfl
          have hc := hih (acc ++ [40] ++ joined (us.take q)) wr (by rw [hl1, hj3]; rw [hj2] at hjq1; simp; omega) HWq.out
          have HJ2 : Hid (acc ++ [40] ++ joined (us.take q) ++ t = acc ++ [40] ++ joined (us.take (q + 1))) := Lib.hid (by rw [hj2, hj3]; simp)
          clear hq0 HJ hj2 hj3 hih hl1 hjq hjq1
          go_wp2_with fail
          refine hc.mono ?_
          rintro e w2 ⟨rfl, hd2, hb2⟩
          have HW2 := Lib.hid (HWq.out.step hb2 hd2)
          have HB2 := Lib.hid (HBl.out.trans hb2)
          clear hc hd2 hb2
          go_wp2_with fail
          go_roundw
          case rel => exact ⟨q + 1, f, by omega, rfl, by go_num, HD2.out, by omega, hbe, by rw [← HJ2.out]; exact HW2.out, HB2.out⟩
          case measure => simp [intOf]; omega
        · have hqp : (0 : Int) < (q : Int) := by omega
          rw [if_neg hq0] at HJ
          have hjl2 := congrArg List.length HJ
          simp only [List.length_append, List.length_singleton] at hjl2
          have hps := put_any HWq.out 32 32 (by decide) (by omega)
          have HJ2 : Hid (acc ++ [40] ++ joined (us.take q) ++ [32] ++ t = acc ++ [40] ++ joined (us.take (q + 1))) := Lib.hid (by rw [HJ]; simp)
          have hal : (acc ++ [40] ++ joined (us.take q) ++ [32]).length + t.length ≤ 1000000 := by
            rw [List.length_append, hl1, List.length_singleton]; omega
          clear hq0 HJ hjl2 hl1 hjq hjq1
          go_wp2_with fail
          refine hps.mono ?_
          rintro e w2 ⟨rfl, hW2, hb2⟩
          have hc := hih _ w2 hal hW2
          have HW2 := Lib.hid hW2
          have HB2 := Lib.hid (HBl.out.trans hb2)
          clear hps hW2 hb2 hih
          go_wp2_with fail
          refine hc.mono ?_
          rintro e w3 ⟨rfl, hd3, hb3⟩
          have HW3 := Lib.hid (HW2.out.step hb3 hd3)
          have HB3 := Lib.hid (HB2.out.trans hb3)
          clear hc hd3 hb3
          go_wp2_with fail
          go_roundw
          case rel => exact ⟨q + 1, f, by omega, rfl, by go_num, HD2.out, by omega, hbe, by rw [← HJ2.out]; exact HW3.out, HB3.out⟩
          case measure => simp [intOf]; omega
      · have hqk : q = k := by omega
        have hfe : e = u := by
          have h1 := HD.out
          rw [List.drop_of_length_le (by rw [HH.out.1]; omega)] at h1
          rcases Nat.lt_or_ge e u with h | h
          · rw [trail_step (up1 := u) (fun j hj => HE.out j (by omega)) h rfl] at h1; cases h1
          · omega
        have HT : Hid (us.take q = us) := Lib.hid (List.take_of_length_le (by rw [← HH.out.2.1, List.length_map, HH.out.1]; omega))
        have hps := put_any HWq.out 41 41 (by decide) (by omega)
        clear hqk hl1 hjq
        go_wp2_with fail
        refine hps.mono ?_
        rintro e w2 ⟨rfl, hW2, hb2⟩
        have HW2 := Lib.hid hW2
        have HB2 := Lib.hid (HBl.out.trans hb2)
        clear hps hW2 hb2
        go_wp2_with fail
        go_ret
        exact WritePost.of rfl (by rw [HT.out, listText]; simp) HW2.out.bd HB2.out
end Go.Proofs.YtmmohhaolgblkaaDoor

/- The reference's kids and formatItem over a valid list. -/
import Derived.Test.YtmmohhaolgblkaaDoorAS
namespace Go.Proofs.YtmmohhaolgblkaaDoor
open Go.RowKit

set_option maxHeartbeats 1000000 in
set_option maxRecDepth 100000 in
theorem refKids_any (g cap : Nat) (its : List It) (E : List Nat) (X : List (List UInt8)) (hE : ∀ j, j < its.length → j < E.getD j 0) (d i k u : Nat) (pos : Int) (hd : d ≤ 256) (hi : its[i]? = some ⟨5, ⟨#[]⟩, k, pos⟩) (hl : (trail E (i + 1) u).length = k)
    (hs : ∀ j ∈ trail E (i + 1) u, Tree its E X d j) (hb : ∀ j ∈ trail E (i + 1) u, E.getD j 0 ≤ u) (he : i < u ∧ u ≤ its.length) (w : World) (hL : Ls w g its) :
    Calls Tryd.prog 38 #[.slice (some ⟨g, 0, none⟩) its.length cap, .int .i64 i] w fun e w' => ∃ v, e = .returned v ∧ w'.ownsRow w.heap.size 3 1 v k (ints (trail E (i + 1) u)) ∧ Below w.heap.size w w' := by
  obtain ⟨i0, hii, hz0, hz1, hz2⟩ := info_parts infoInt
  have hin : i < its.length := (List.getElem?_eq_some_iff.1 hi).1
  have HI := Lib.hid hi
  have HH := Lib.hid (And.intro hl (And.intro hb hs))
  have HE := Lib.hid hE
  have HL := Lib.hid hL
  have hfew := hL.few
  obtain ⟨he1, he2⟩ := he
  have g2 : (i : Int) < (its.length : Int) := by omega
  have g3 : (0 : Int) ≤ (i : Int) := by omega
  have hkn : k ≤ its.length := by
    have := trail_len E (i + 1) u
    rw [hl] at this; omega
  clear hi hs hb hE hl hL
  go_enter Tryd.func38, Tryd.ntmps38
  go_wp2
  generalize hB : w.heap.size = B at *
  have HBe := Lib.hid hB
  clear hB
  go_loopw [5, 6, 7] (fun l en kv wr => ∃ (q e : Nat), q ≤ k ∧ en = .int .i64 e ∧ kv = .int .i64 q ∧ (trail E (i + 1) u).drop q = trail E e u ∧ i + 1 ≤ e ∧ e ≤ u ∧ wr.ownsRow B 3 1 l q (ints ((trail E (i + 1) u).take q)) ∧ Below B w wr) (fun _ _ kv _ => k - (intOf kv).toNat)
  case atStart => exact ⟨0, i + 1, Nat.zero_le _, by go_num, rfl, rfl, Nat.le_refl _, he1, World.ownsRow_nil _ _ _ _, Below.refl _ _⟩
  case round =>
    obtain ⟨q, e, hq, rfl, rfl, hdr, hei, heu, hown, hbel⟩ := hrel
    have hLr := HL.out.below (by rw [HBe.out]; exact hbel)
    have d2 := (hLr.get HI.out).2.2.1
    simp only at d2
    have HD := Lib.hid hdr
    have HBl := Lib.hid hbel
    have HO := Lib.hid hown
    have hbs : B ≤ wr.heap.size := by have := hbel.size; have := HBe.out; omega
    clear hdr hbel hLr hown
    by_cases hlt : q < k
    · have hne : trail E e u ≠ [] := by
        rw [← HD.out]
        intro hn
        have := congrArg List.length hn
        rw [List.length_drop, HH.out.1] at this
        simp at this; omega
      have hlu : e < u := by
        rcases Nat.lt_or_ge e u with h | h
        · exact h
        · exact absurd (trail_stop (by omega)) hne
      have hst := trail_step (up1 := u) (fun j hj => HE.out j (by omega)) hlu rfl
      have hqe : (trail E (i + 1) u)[q]? = some e := by
        have := congrArg (fun l => l[0]?) (HD.out.trans hst)
        simpa using this
      have hmem : e ∈ trail E (i + 1) u := List.mem_of_getElem? hqe
      have hih := fun w' hw => itemEnd_any g cap its E X HE.out d e (HH.out.2.2 e hmem) 0 (by omega) w' hw
      have hbe := HH.out.2.1 e hmem
      have hen := HE.out e (by omega)
      have HD2 : Hid ((trail E (i + 1) u).drop (q + 1) = trail E (E.getD e 0) u) := Lib.hid (by
        rw [← List.drop_drop, HD.out, hst]; rfl)
      have HT2 : Hid ((trail E (i + 1) u).take (q + 1) = (trail E (i + 1) u).take q ++ [e]) := Lib.hid (by rw [List.take_add_one, hqe]; rfl)
      clear hst hmem hne hqe
      generalize E.getD e 0 = f at *
      have HIH := Lib.hid hih
      clear hih
      go_wp2_with (at_builtin; refine wpList_append_own _ rfl (.tmp 19) (.tmp 21) 24 rfl B 3 i0 (.int .i64 0) 1 8 Tryd.underlying24 hii hz0 hz1 hz2 rfl (by decide) _ q _ rfl (HO.out.alloc _) ⟨wr.heap.size, 0, none⟩ 1 1 [.int .i64 e] rfl rfl (World.news_of_block (cs := #[.int .i64 e]) (t := 3) (fr := (0, 0)) (heap_alloc_new wr _)) (by simp [Value.oneCell']) (by unfold maxLen; omega) (by omega) (by simp; omega) ?_)
      intro v' w2 hown' hgrow _
      have HB2 := Lib.hid (((HBl.out.alloc hbs _).grown hgrow (by simp; omega) (fun q hq => (HO.out.lt q hq).1)))
      obtain ⟨g3, c3, rfl, _⟩ := ownsRow_shape hown' (by omega)
      have HO3 : Hid (w2.ownsRow B 3 1 (.slice (some ⟨g3, 0, none⟩) (q + 1) c3) (q + 1) (ints ((trail E (i + 1) u).take (q + 1)))) := Lib.hid (by
        rw [HT2.out]; simpa [ints] using hown')
      have hie := HIH.out w2 (HL.out.below (by rw [HBe.out]; exact HB2.out))
      clear hown' hgrow
      go_wp2_with (go_at_call 33; refine hie.mono ?_; rintro e w3 ⟨rfl, hb3⟩)
      go_roundw
      case rel => exact ⟨q + 1, f, by omega, rfl, by go_num, HD2.out, by omega, hbe, ownsRow_below HO3.out hb3 (fun q hq => (HO3.out.lt q hq).2), HB2.out.trans (hb3.mono (by have := HB2.out.size; have := HBe.out; omega))⟩
      case measure => simp [intOf]; omega
    · have hqk : q = k := by omega
      have HO2 : Hid (wr.ownsRow B 3 1 u5 k (ints (trail E (i + 1) u))) := Lib.hid (by
        have := HO.out
        rw [hqk, List.take_of_length_le (by rw [HH.out.1]; omega)] at this; exact this)
      clear hqk
      go_wp2
      go_ret
      exact ⟨_, rfl, by rw [HBe.out]; exact HO2.out, by rw [HBe.out]; exact HBl.out⟩

theorem joined_take (us : List (List UInt8)) (q : Nat) (u : List UInt8) (h : us[q]? = some u) : joined (us.take (q + 1)) = (if q = 0 then [] else joined (us.take q) ++ [32]) ++ u := by
  induction us generalizing q with
  | nil => simp at h
  | cons t r ih =>
    cases q with
    | zero => simp at h; subst h; simp [joined]
    | succ q =>
      simp only [List.getElem?_cons_succ] at h
      have := ih q h
      cases q with
      | zero =>
        cases r with
        | nil => simp at h
        | cons t2 r2 => simp at h; subst h; simp [joined]
      | succ q =>
        cases r with
        | nil => simp at h
        | cons t2 r2 =>
          rw [List.take_succ_cons] at this ⊢
          rw [List.take_succ_cons] at *
          have e1 : joined (t :: t2 :: r2.take (q + 1)) = t ++ 32 :: joined (t2 :: r2.take (q + 1)) := rfl
          have e2 : joined (t :: t2 :: r2.take q) = t ++ 32 :: joined (t2 :: r2.take q) := rfl
          rw [if_neg (by omega)] at this ⊢
          simp only [List.take_succ_cons] at this ⊢
          rw [e1, e2, this]; simp
theorem joined_mono : ∀ (us : List (List UInt8)) (q : Nat), (joined (us.take q)).length ≤ (joined us).length
  | [], q => by simp
  | [t], q => by cases q <;> simp [joined]
  | t :: u :: r, 0 => by simp [joined]
  | t :: u :: r, 1 => by simp [joined]
  | t :: u :: r, q + 2 => by
    have := joined_mono (u :: r) (q + 1)
    simp only [List.take_succ_cons, joined, List.length_append, List.length_cons] at this ⊢
    omega
theorem joined_mem : ∀ (us : List (List UInt8)) (u : List UInt8), u ∈ us → u.length ≤ (joined us).length
  | [], u, h => by cases h
  | [t], u, h => by simp at h; subst h; exact Nat.le_refl _
  | t :: v :: r, u, h => by
    have ih := joined_mem (v :: r) u
    simp only [joined, List.length_append, List.length_cons]
    rw [List.mem_cons] at h
    rcases h with rfl | h
    · omega
    · have := ih h; omega
end Go.Proofs.YtmmohhaolgblkaaDoor

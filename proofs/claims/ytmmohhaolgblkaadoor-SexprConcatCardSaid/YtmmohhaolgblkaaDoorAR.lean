/- The reference's itemEnd over a valid list. -/
import Derived.Test.YtmmohhaolgblkaaDoorAQ
namespace Go.Proofs.YtmmohhaolgblkaaDoor
open Go.RowKit

set_option maxHeartbeats 1000000 in
set_option maxRecDepth 100000 in
theorem validItem_list (k : Nat) (pos : Int) (w : World) :
    Calls Tryd.prog 49 #[.agg #[.int .i64 5, .string ⟨#[]⟩, .int .i64 k, .int .i64 pos]] w fun e w' => e = .returned (.bool true) ∧ Below w.heap.size w w' := by
  have hbl : Below w.heap.size w (w.alloc (.cells #[.int .i64 5, .string ⟨#[]⟩, .int .i64 k, .int .i64 pos] 31)) := (Below.refl _ _).alloc (Nat.le_refl _) _
  have HB := Lib.hid hbl
  clear hbl
  have h0 : ¬ (k : Int) < 0 := by omega
  go_enter Tryd.func49, Tryd.ntmps49
  go_wp2
  go_ret
  exact ⟨rfl, HB.out⟩

/-- a list of items in the cells of block g -/
structure Ls (w : World) (g : Nat) (its : List It) : Prop where
  cells : ItemsAt w g its
  lt : g < w.heap.size
  few : its.length ≤ 1000000
  texts : ∀ x ∈ its, x.text.size ≤ 65536
theorem Ls.below {w w' : World} {g : Nat} {its : List It} (h : Ls w g its) (hb : Below w.heap.size w w') : Ls w' g its := ⟨h.cells.below hb h.lt, Nat.lt_of_lt_of_le h.lt hb.size, h.few, h.texts⟩
theorem Ls.get {w : World} {g i : Nat} {its : List It} (h : Ls w g its) {x : It} (hx : its[i]? = some x) :
    w.cell? ⟨g, i * 4, none⟩ = some (.int .i64 x.kind) ∧ w.cell? ⟨g, i * 4 + 1, none⟩ = some (.string x.text) ∧ w.cell? ⟨g, i * 4 + 2, none⟩ = some (.int .i64 x.kids) ∧ w.cell? ⟨g, i * 4 + 3, none⟩ = some (.int .i64 x.pos) :=
  ⟨h.cells i x hx 0 (by omega), h.cells i x hx 1 (by omega), h.cells i x hx 2 (by omega), h.cells i x hx 3 (by omega)⟩

set_option maxHeartbeats 2000000 in
set_option maxRecDepth 100000 in
theorem itemEnd_any (g cap : Nat) (its : List It) (E : List Nat) (X : List (List UInt8)) (hE : ∀ j, j < its.length → j < E.getD j 0) : ∀ (d i : Nat), Tree its E X d i → ∀ (depth : Nat), depth + d ≤ 256 → ∀ w, Ls w g its →
    Calls Tryd.prog 33 #[.slice (some ⟨g, 0, none⟩) its.length cap, .int .i64 i, .int .i64 depth] w fun e w' => e = .returned (.int .i64 (E.getD i 0 : Nat)) ∧ Below w.heap.size w w' := by
  intro d i h
  induction h with
  | @leaf d i kind pos text hi hk he hx =>
    intro depth hdep w hL
    have hin : i < its.length := (List.getElem?_eq_some_iff.1 hi).1
    obtain ⟨c0, c1, c2, c3⟩ := hL.get hi
    simp only at c0 c1 c2 c3
    have hts := hL.texts _ (List.mem_of_getElem? hi)
    have hvi := validItem_leaf kind pos text w hk hts
    have hfew := hL.few
    have HLs := Lib.hid hL
    have g0 : ¬ (its.length : Int) ≤ (i : Int) := by omega
    have g1 : ¬ (256 : Int) < (depth : Int) := by omega
    have g2 : (i : Int) < (its.length : Int) := by omega
    have g3 : (0 : Int) ≤ (i : Int) := by omega
    have HE := Lib.hid he
    have HI := Lib.hid hi
    clear hL hi hk he hx hE
    go_enter Tryd.func33, Tryd.ntmps33
    go_wp2_with (go_at_call 49; refine hvi.mono ?_; rintro e w1 ⟨rfl, hb1⟩; have d2 := ((HLs.out.below hb1).get HI.out).2.2.1; simp only at d2)
    go_loop [7, 8] (fun e k => e = .int .i64 ((i : Int) + 1) ∧ k = .int .i64 0) (fun _ _ => 0)
    case atStart => exact ⟨rfl, rfl⟩
    case round =>
      obtain ⟨rfl, rfl⟩ := hrel
      go_wp2
      go_ret
      exact ⟨ret_int (by have := HE.out; rw [List.getD_eq_getElem?_getD] at this; omega), hb1⟩
  | @list d i k pos hi hl hs hb he hx ih =>
    intro depth hdep w hL
    have hin : i < its.length := (List.getElem?_eq_some_iff.1 hi).1
    obtain ⟨c0, c1, c2, c3⟩ := hL.get hi
    simp only at c0 c1 c2 c3
    have hvi := validItem_list k pos w
    have hfew := hL.few
    have HLs := Lib.hid hL
    have g0 : ¬ (its.length : Int) ≤ (i : Int) := by omega
    have g1 : ¬ (256 : Int) < (depth : Int) := by omega
    have g2 : (i : Int) < (its.length : Int) := by omega
    have g3 : (0 : Int) ≤ (i : Int) := by omega
    have hkn : k ≤ its.length := by
      have := trail_len E (i + 1) (E.getD i 0)
      rw [hl] at this; omega
    have g4 : ¬ (its.length : Int) < (k : Int) := by omega
    have HI := Lib.hid hi
    have HH := Lib.hid (And.intro hl (And.intro hb ih))
    have HE := Lib.hid hE
    have gb0 : decide ((its.length : Int) ≤ (i : Int)) = false := by simp; omega
    have gb0' : decide (its.length ≤ i) = false := by simp; omega
    have gb1 : decide ((256 : Int) < (depth : Int)) = false := by simp; omega
    have gb1' : decide (256 < depth) = false := by simp; omega
    have gb4 : decide ((its.length : Int) < (k : Int)) = false := by simp; omega
    have gb4' : decide (its.length < k) = false := by simp; omega
    obtain ⟨u, hu⟩ : ∃ u, E.getD i 0 = u := ⟨_, rfl⟩
    rw [hu] at HH he
    have HU := Lib.hid hu
    obtain ⟨he1, he2⟩ := he
    clear hL hi hs hb hx hE hl ih hu
    go_enter Tryd.func33, Tryd.ntmps33
    go_wp2_with (go_at_call 49; refine hvi.mono ?_; rintro e w1 ⟨rfl, hb1⟩; have d2 := ((HLs.out.below hb1).get HI.out).2.2.1; simp only at d2)
    have HB1 := Lib.hid hb1
    clear c0 c1 c2 c3 hvi d2 hb1
    go_loopw [7, 8] (fun en kv wr => ∃ (q e : Nat), q ≤ k ∧ en = .int .i64 e ∧ kv = .int .i64 q ∧ (trail E (i + 1) u).drop q = trail E e u ∧ i + 1 ≤ e ∧ e ≤ u ∧ Below w.heap.size w wr) (fun _ kv _ => k - (intOf kv).toNat)
    case atStart => exact ⟨0, i + 1, Nat.zero_le _, by go_num, rfl, rfl, Nat.le_refl _, he1, HB1.out⟩
    case round =>
      obtain ⟨q, e, hq, rfl, rfl, hdr, hei, heu, hbel⟩ := hrel
      have hLr := HLs.out.below hbel
      have d2 := (hLr.get HI.out).2.2.1
      simp only at d2
      have HD := Lib.hid hdr
      have HBl := Lib.hid hbel
      have HLr := Lib.hid hLr
      clear hdr hbel hLr
      by_cases hlt : q < k
      · have hne : trail E e u ≠ [] := by
          rw [← HD.out]
          intro hn
          have := congrArg List.length hn
          rw [List.length_drop, HH.out.1] at this
          simp at this; omega
        have hlu : e < u := by
          rcases Nat.lt_or_ge e u with h | h
          · exact h
          · exact absurd (trail_stop (by omega)) hne
        have hst := trail_step (up1 := u) (fun j hj => HE.out j (by omega)) hlu rfl
        have hmem : e ∈ trail E (i + 1) u := by
          have : e ∈ (trail E (i + 1) u).drop q := by rw [HD.out, hst]; simp
          exact (List.drop_sublist _ _).subset this
        have hih := HH.out.2.2 e hmem (depth + 1) (by omega) wr HLr.out
        rw [show ((depth + 1 : Nat) : Int) = (depth : Int) + 1 from rfl] at hih
        have hbe := HH.out.2.1 e hmem
        have hen := HE.out e (by omega)
        have HD2 : Hid ((trail E (i + 1) u).drop (q + 1) = trail E (E.getD e 0) u) := Lib.hid (by
          rw [← List.drop_drop, HD.out, hst]; rfl)
        clear hst hmem hne
        generalize E.getD e 0 = f at *
        have hf0 : ¬ (f : Int) < 0 := by omega
        go_wp2_with (go_at_call 33; refine hih.mono ?_; rintro e w2 ⟨rfl, hb2⟩)
        go_roundw
        case rel => exact ⟨q + 1, f, by omega, rfl, by go_num, HD2.out, by omega, hbe, HBl.out.trans (hb2.mono HBl.out.size)⟩
        case measure => simp [intOf]; omega
      · have hqk : q = k := by omega
        have hfe : e = u := by
          have h1 := HD.out
          rw [List.drop_of_length_le (by rw [HH.out.1]; omega)] at h1
          rcases Nat.lt_or_ge e u with h | h
          · rw [trail_step (up1 := u) (fun j hj => HE.out j (by omega)) h rfl] at h1; cases h1
          · omega
        clear hqk
        go_wp2
        go_ret
        exact ⟨ret_int (by rw [HU.out, hfe]), HBl.out⟩
end Go.Proofs.YtmmohhaolgblkaaDoor

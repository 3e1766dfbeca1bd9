/- Parse agrees with the reference: the walk of the statement. -/
import Derived.Test.YtmmohhaolgblkaaDoorZ
import Derived.Test.YtmmohhaolgblkaaDoorAA
namespace Go.Proofs.YtmmohhaolgblkaaDoor
open Go.RowKit

theorem parseLoop_good (s : ByteArray) : ∀ (n : Nat) (st x : PSt), Good st.pos st.its st.op → st.pos ≤ s.size → parseLoop s n st = .ok x → Good x.pos x.its x.op ∧ x.pos ≤ s.size := by
  intro n
  induction n with
  | zero => intro st x hg hp h; cases h; exact ⟨hg, hp⟩
  | succ n ih =>
    intro st x hg hp h
    obtain ⟨p, its, op⟩ := st
    simp only [parseLoop] at h
    split at h
    · rename_i hlt
      cases e : itemF s ⟨p, its, op⟩ with
      | error z => rw [e] at h; cases h
      | ok y =>
        rw [e] at h
        have h1 := good_item s p its op hlt hg y e
        have h2 := item_pos s p its op hlt y e
        exact ih _ _ (good_skip h1) (skipTo_le s y.pos h2.2) h
    · cases h; exact ⟨hg, hp⟩
theorem parseT_few (s : ByteArray) : (parseT s).1.length ≤ 65536 := by
  unfold parseT
  split
  · simp
  · rename_i hs
    unfold parseF
    split
    · simp
    · rename_i st hst
      have := parseLoop_good s _ _ _ ((good_nil 0).mono (Nat.zero_le _)) (skipTo_le s 0 (by omega)) hst
      have h1 := this.1.few
      have h2 := this.2
      split
      · simp only; omega
      · simp

set_option maxHeartbeats 1000000 in
set_option maxRecDepth 100000 in
theorem parses_any (m : Int) (s : ByteArray) (w : World) (hB : 0 < w.heap.size) (hM : w.cell? ⟨0, 0, none⟩ = some (.int .i64 m)) :
    Calls Tryd.prog 12 #[.string s] w fun e w' => e = .returned (.bool true) ∧ Below w.heap.size w w' := by
  have hp := parse_any m s w hB hM
  have hq := fun w' => parseItems_any s w'
  have hfew := parseT_few s
  unfold ParsePost at hp hq
  generalize parseT s = r at *
  obtain ⟨its, a, k⟩ := r
  have HQ := Lib.hid hq
  clear hq
  go_enter Tryd.func12, Tryd.ntmps12
  go_wp2_with fail
  refine hp.mono ?_
  rintro e w1 ⟨v, rfl, hown, hb1⟩
  have H1 := Lib.hid hb1
  have HO1 := Lib.hid hown
  clear hp hb1 hown
  go_wp2_with fail
  refine (HQ.out w1).mono ?_
  rintro e w2 ⟨v2, rfl, hown2, hb2⟩
  have hle := hb2.size
  have hlt := HO1.out.lt
  have HO3 : w2.ownsRow w.heap.size 31 4 v its.length (flat its) := HO1.out.kept (row := none) ⟨hb2.os, hb2.tape, hb2.output, hb2.size, fun k hk _ => hb2.block k hk⟩ (by cases v.ownBlock with | none => exact .inl rfl | some g => exact .inr (by simp))
  have hw1 := H1.out.size
  have hpos : 0 < w2.heap.size := by omega
  obtain ⟨ao, ga, ca, rfl, hA⟩ := lies_of HO3 hpos
  obtain ⟨bo, gb, cb, rfl, hB2⟩ := lies_of hown2 hpos
  have heq := equal_any true ao bo ga gb ca cb its.length its its w2 (by have := hfew; omega) hA hB2 (fun i x y hx hy => by rw [hx] at hy; cases hy; exact ⟨rfl, rfl, rfl, fun _ => rfl⟩)
  have H2 := Lib.hid hb2
  clear HO3 hown2 hA hB2 hb2 HO1 HQ hlt
  go_wp2_with (go_at_call 26; refine heq.mono ?_; rintro e w3 ⟨rfl, hb3⟩)
  go_ret
  exact ⟨rfl, (H1.out.trans (H2.out.mono H1.out.size)).trans (hb3.mono (Nat.le_trans H1.out.size H2.out.size))⟩

set_option maxHeartbeats 1000000 in
set_option maxRecDepth 100000 in
theorem sexprParse_any (m : Int) (s : ByteArray) (w : World) (hs : s.size ≤ maxLen) (hB : 0 < w.heap.size) (hM : w.cell? ⟨0, 0, none⟩ = some (.int .i64 m)) :
    Calls Tryd.prog 3 #[.string s] w fun e w' => e = .returned (.bool true) ∧ Below w.heap.size w w' := by
  unfold maxLen at hs
  by_cases hbig : 300 < s.size
  · have haw := awake_any m w hB hM
    have h1 : (300 : Int) < (s.size : Int) := by omega
    have h2 : ¬ (s.size : Int) ≤ 300 := by omega
    go_enter Tryd.func3, Tryd.ntmps3
    go_wp2_with (go_at_call 11; refine haw.mono ?_; rintro e w' ⟨rfl, hb⟩)
    go_ret
    exact ⟨rfl, hb⟩
  · have hp := parses_any m s w hB hM
    have HM := Lib.hid hM
    have h1 : ¬ (300 : Int) < (s.size : Int) := by omega
    have h2 : (s.size : Int) ≤ 300 := by omega
    clear hM
    go_enter Tryd.func3, Tryd.ntmps3
    go_wp2_with (first
      | (go_at_call 12; refine hp.mono ?_; rintro e w1 ⟨rfl, hb1⟩; have H1 := Lib.hid hb1; have haw := awake_any m w1 (Nat.lt_of_lt_of_le hB hb1.size) ((hb1.cell (p := ⟨0, 0, none⟩) hB).trans HM.out); clear hb1)
      | (go_at_call 11; refine haw.mono ?_; rintro e w2 ⟨rfl, hb2⟩))
    go_ret
    exact ⟨rfl, H1.out.trans (hb2.mono H1.out.size)⟩
end Go.Proofs.YtmmohhaolgblkaaDoor

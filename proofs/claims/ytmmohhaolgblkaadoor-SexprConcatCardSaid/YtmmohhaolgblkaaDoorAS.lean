/- The reference's ValidItems, Roots and kids over a valid list. -/
import Derived.Test.YtmmohhaolgblkaaDoorAR
namespace Go.Proofs.YtmmohhaolgblkaaDoor
open Go.RowKit

/-- what is known of a valid list -/
structure Wd (its : List It) (E : List Nat) (X : List (List UInt8)) (d : Nat) : Prop where
  up : ∀ j, j < its.length → j < E.getD j 0
  roots : ∀ j ∈ trail E 0 its.length, Tree its E X d j ∧ E.getD j 0 ≤ its.length
  deep : d ≤ 256

set_option maxHeartbeats 1000000 in
set_option maxRecDepth 100000 in
theorem validItems_any (ao : Option Addr) (g cap : Nat) (its : List It) (E : List Nat) (X : List (List UInt8)) (d : Nat) (hW : Wd its E X d) (w : World) (hL : Ls w g its) (hao : its.length ≠ 0 → ao = some ⟨g, 0, none⟩) :
    Calls Tryd.prog 18 #[.slice ao its.length cap] w fun e w' => e = .returned (.bool true) ∧ Below w.heap.size w w' := by
  have HA := Lib.hid hao
  have HW := Lib.hid hW
  have HL := Lib.hid hL
  have hfew := hL.few
  clear hao hW hL
  go_enter Tryd.func18, Tryd.ntmps18
  go_wp2
  go_loopw [3] (fun i wr => ∃ (q e : Nat), i = .int .i64 e ∧ e ≤ its.length ∧ (trail E 0 its.length).drop q = trail E e its.length ∧ Below w.heap.size w wr) (fun i _ => its.length - (intOf i).toNat)
  case atStart => exact ⟨0, 0, rfl, Nat.zero_le _, rfl, Below.refl _ _⟩
  case round =>
    obtain ⟨q, e, rfl, he, hdr, hbel⟩ := hrel
    have HD := Lib.hid hdr
    have HB := Lib.hid hbel
    clear hdr hbel
    by_cases hlt : e < its.length
    · obtain rfl := HA.out (by omega)
      have hst := trail_step HW.out.up hlt rfl
      have hmem : e ∈ trail E 0 its.length := (List.drop_sublist q _).subset (by rw [HD.out, hst]; simp)
      have hT := HW.out.roots e hmem
      have hie := itemEnd_any g cap its E X HW.out.up d e hT.1 0 (by have := HW.out.deep; omega) wr (HL.out.below HB.out)
      have hup := HW.out.up e hlt
      have hle := hT.2
      have HD2 : Hid ((trail E 0 its.length).drop (q + 1) = trail E (E.getD e 0) its.length) := Lib.hid (by rw [← List.drop_drop, HD.out, hst]; rfl)
      clear hst hmem hT
      generalize E.getD e 0 = f at *
      have hf0 : ¬ (f : Int) < 0 := by omega
      go_wp2_with (go_at_call 33; refine hie.mono ?_; rintro e w2 ⟨rfl, hb2⟩)
      go_roundw
      case rel => exact ⟨q + 1, f, rfl, hle, HD2.out, HB.out.trans (hb2.mono HB.out.size)⟩
      case measure => simp [intOf]; omega
    · go_wp2
      go_ret
      exact ⟨rfl, HB.out⟩

set_option maxHeartbeats 1000000 in
set_option maxRecDepth 100000 in
theorem refRoots_any (ao : Option Addr) (g cap : Nat) (its : List It) (E : List Nat) (X : List (List UInt8)) (d : Nat) (hW : Wd its E X d) (w : World) (hL : Ls w g its) (hao : its.length ≠ 0 → ao = some ⟨g, 0, none⟩) :
    Calls Tryd.prog 22 #[.slice ao its.length cap] w fun e w' => ∃ v, e = .returned v ∧ w'.ownsRow w.heap.size 3 1 v (trail E 0 its.length).length (ints (trail E 0 its.length)) ∧ Below w.heap.size w w' := by
  obtain ⟨i0, hi, hz0, hz1, hz2⟩ := info_parts infoInt
  have hvi := validItems_any ao g cap its E X d hW w hL hao
  have HA := Lib.hid hao
  have HW := Lib.hid hW
  have HL := Lib.hid hL
  have hfew := hL.few
  clear hao hW hL
  go_enter Tryd.func22, Tryd.ntmps22
  go_wp2_with (go_at_call 18; refine hvi.mono ?_; rintro e w1 ⟨rfl, hb1⟩)
  have HB1 := Lib.hid hb1
  clear hb1 hvi
  generalize hB : w.heap.size = B at *
  have HBe := Lib.hid hB
  clear hB
  go_loopw [3, 4] (fun l i wr => ∃ (e : Nat) (acc : List Nat), i = .int .i64 e ∧ e ≤ its.length ∧ wr.ownsRow B 3 1 l acc.length (ints acc) ∧ Below B w wr ∧ acc ++ trail E e its.length = trail E 0 its.length ∧ acc.length ≤ e) (fun _ i _ => its.length - (intOf i).toNat)
  case atStart => exact ⟨0, [], rfl, Nat.zero_le _, World.ownsRow_nil _ _ _ _, HB1.out, rfl, Nat.le_refl _⟩
  case round =>
    obtain ⟨e, acc, rfl, he, hown, hbel, hdr, hal⟩ := hrel
    have HO := Lib.hid hown
    have HD := Lib.hid hdr
    have HB := Lib.hid hbel
    have hbs : B ≤ wr.heap.size := by have := hbel.size; have := HBe.out; omega
    clear hown hdr hbel
    by_cases hlt : e < its.length
    · obtain rfl := HA.out (by omega)
      have hst := trail_step HW.out.up hlt rfl
      have hmem : e ∈ trail E 0 its.length := by rw [← HD.out, hst]; simp
      have hT := HW.out.roots e hmem
      have hie := fun w' hw => itemEnd_any g cap its E X HW.out.up d e hT.1 0 (by have := HW.out.deep; omega) w' hw
      have hup := HW.out.up e hlt
      have hle := hT.2
      have HD2 : Hid ((acc ++ [e]) ++ trail E (E.getD e 0) its.length = trail E 0 its.length) := Lib.hid (by rw [← HD.out, hst]; simp)
      clear hst hmem hT
      generalize E.getD e 0 = f at *
      have HIE := Lib.hid hie
      clear hie
      go_wp2_with (at_builtin; refine wpList_append_own _ rfl (.tmp 15) (.tmp 17) 24 rfl B 3 i0 (.int .i64 0) 1 8 Tryd.underlying24 hi hz0 hz1 hz2 rfl (by decide) _ acc.length _ rfl (HO.out.alloc _) ⟨wr.heap.size, 0, none⟩ 1 1 [.int .i64 e] rfl rfl (World.news_of_block (cs := #[.int .i64 e]) (t := 3) (fr := (0, 0)) (heap_alloc_new wr _)) (by simp [Value.oneCell']) (by unfold maxLen; omega) (by omega) (by simp; omega) ?_)
      intro v' w2 hown' hgrow _
      have HB2 := Lib.hid (((HB.out.alloc hbs _).grown hgrow (by simp; omega) (fun q hq => (HO.out.lt q hq).1)))
      obtain ⟨g3, c3, rfl, _⟩ := ownsRow_shape hown' (by omega)
      have HO3 : Hid (w2.ownsRow B 3 1 (.slice (some ⟨g3, 0, none⟩) (acc.length + 1) c3) (acc ++ [e]).length (ints (acc ++ [e]))) := Lib.hid (by
        rw [List.length_append, List.length_singleton]; simpa [ints] using hown')
      have hie := HIE.out w2 (HL.out.below (by rw [HBe.out]; exact HB2.out))
      clear hown' hgrow
      go_wp2_with (go_at_call 33; refine hie.mono ?_; rintro e w3 ⟨rfl, hb3⟩)
      go_roundw
      case rel => exact ⟨f, acc ++ [e], rfl, hle, ownsRow_below HO3.out hb3 (fun q hq => (HO3.out.lt q hq).2), HB2.out.trans (hb3.mono (by have := HB2.out.size; have := HBe.out; omega)), HD2.out, by rw [List.length_append, List.length_singleton]; omega⟩
      case measure => simp [intOf]; omega
    · have HF : Hid (acc = trail E 0 its.length) := Lib.hid (by rw [← HD.out, trail_stop hlt, List.append_nil])
      go_wp2
      go_ret
      exact ⟨_, rfl, by rw [← HF.out, HBe.out]; exact HO.out, by rw [HBe.out]; exact HB.out⟩
end Go.Proofs.YtmmohhaolgblkaaDoor

/- tree.Children, Roots and Children over a valid list. -/
import Derived.Test.YtmmohhaolgblkaaDoorAL
namespace Go.Proofs.YtmmohhaolgblkaaDoor
open Go.RowKit

set_option maxHeartbeats 1000000 in
set_option maxRecDepth 100000 in
theorem treeChildren_any (ao : Option Addr) (g cap : Nat) (E : List Nat) (from0 up1 : Nat) (w : World) (hn : E.length ≤ 1000000000) (hao : E.length ≠ 0 → ao = some ⟨g, 0, none⟩) (hg : g < w.heap.size)
    (hc : ∀ t (h : t < E.length), w.cell? ⟨g, t, none⟩ = some (.int .i64 E[t])) (hto : up1 ≤ E.length) (hE : ∀ j, j < up1 → j < E.getD j 0) (hE2 : ∀ j, j < E.length → E.getD j 0 ≤ E.length) (hf : from0 ≤ 1000000001) :
    Calls Tryd.prog 37 #[.slice ao E.length cap, .int .i64 from0, .int .i64 up1] w fun e w' => ∃ v, e = .returned v ∧ w'.ownsRow w.heap.size 3 1 v (trail E from0 up1).length (ints (trail E from0 up1)) ∧ Below w.heap.size w w' := by
  obtain ⟨i0, hi, hz0, hz1, hz2⟩ := info_parts infoInt
  have HC := Lib.hid hc
  have HA := Lib.hid hao
  have HE := Lib.hid hE
  have HE2 := Lib.hid hE2
  clear hc hao hE hE2
  go_enter Tryd.func37, Tryd.ntmps37
  go_wp2
  generalize hB : w.heap.size = B at *
  have HBe := Lib.hid hB
  clear hB
  go_loopw [7, 8] (fun l i wr => ∃ (k : Nat) (acc : List Nat), i = .int .i64 k ∧ k ≤ 1000000001 ∧ wr.ownsRow B 3 1 l acc.length (ints acc) ∧ Below B w wr ∧ acc ++ trail E k up1 = trail E from0 up1 ∧ acc.length ≤ k)
    (fun _ i _ => up1 - (intOf i).toNat)
  case atStart => exact ⟨from0, [], rfl, hf, World.ownsRow_nil _ _ _ _, Below.refl _ _, rfl, Nat.zero_le _⟩
  case round =>
    obtain ⟨k, acc, rfl, hk, hown, hbel, hch, hal⟩ := hrel
    have HO := Lib.hid hown
    have HB := Lib.hid hbel
    have HH := Lib.hid hch
    have hsz := hbel.size
    have hbs : B ≤ wr.heap.size := by have := HBe.out; omega
    clear hown hbel hch
    by_cases hlt : k < up1
    · have hkE : k < E.length := by omega
      have hao := HA.out (by omega)
      subst hao
      have hst := trail_step HE.out hlt rfl
      have h1 := HE.out k hlt
      have h2 := HE2.out k hkE
      have hgd : E.getD k 0 = E[k] := by rw [List.getD_eq_getElem?_getD, List.getElem?_eq_getElem hkE]; rfl
      rw [hgd] at hst h1 h2
      have hcl := HC.out k hkE
      have HH2 : Hid ((acc ++ [k]) ++ trail E E[k] up1 = trail E from0 up1) := Lib.hid (by rw [← HH.out, hst]; simp)
      clear hst hgd
      generalize E[k] = x at *
      go_wp2_with (at_builtin; refine wpList_append_own _ rfl (.tmp 17) (.tmp 19) 24 rfl B 3 i0 (.int .i64 0) 1 8 Tryd.underlying24 hi hz0 hz1 hz2 rfl (by decide) _ acc.length _ rfl (HO.out.alloc _) ⟨wr.heap.size, 0, none⟩ 1 1 [.int .i64 k] rfl rfl (World.news_of_block (cs := #[.int .i64 k]) (t := 3) (fr := (0, 0)) (heap_alloc_new wr _)) (by simp [Value.oneCell']) (by unfold maxLen; omega) (by omega) (by simp; omega) ?_)
      intro v' w2 hown' hgrow _
      have hcl2 : w2.cell? ⟨g, k, none⟩ = some (.int .i64 x) := by
        refine hgrow.cell ((World.cell?_alloc_past _ _ _ (by omega)).trans ((HB.out.cell (p := ⟨g, k, none⟩) hg).trans hcl)) (fun e => ?_)
        have := (HO.out.lt g e.symm).1
        omega
      have HB2 := Lib.hid (((HB.out.alloc hbs _).grown hgrow (by simp; omega) (fun q hq => (HO.out.lt q hq).1)))
      obtain ⟨g3, c3, rfl, _⟩ := ownsRow_shape hown' (by omega)
      have HO3 : Hid (w2.ownsRow B 3 1 (.slice (some ⟨g3, 0, none⟩) (acc.length + 1) c3) (acc ++ [k]).length (ints (acc ++ [k]))) := Lib.hid (by
        rw [List.length_append, List.length_singleton]; simpa [ints] using hown')
      clear hown' hgrow
      go_wp2
      go_roundw
      case rel => exact ⟨x, acc ++ [k], rfl, by omega, HO3.out, HB2.out, HH2.out, by rw [List.length_append, List.length_singleton]; omega⟩
      case measure => simp [intOf]; omega
    · have HF : Hid (acc = trail E from0 up1) := Lib.hid (by rw [← HH.out, trail_stop hlt, List.append_nil])
      go_wp2
      go_ret
      exact ⟨_, rfl, by rw [← HF.out, HBe.out]; exact HO.out, by rw [HBe.out]; exact HB.out⟩

/-- a list that is valid: its ends -/
structure Vd (its : List It) (E : List Nat) : Prop where
  chk : checkF its = some E
  high : heightF 0 E [] 0 ≤ 257
  len : E.length = its.length
  up : ∀ j, j < its.length → j < E.getD j 0
  most : ∀ j, j < E.length → E.getD j 0 ≤ E.length
theorem For.vd {d : Nat} {its : List It} {ts : List (List UInt8)} (h : For d its ts) (hd : d ≤ 256) : ∃ E, Vd its E ∧ Lay d 0 its E ts.length := by
  obtain ⟨E, h1, h2, h3⟩ := h.check hd
  have he : endsF its.length (its.map It.kids) = some E := by
    unfold checkF at h1
    rw [h.permitted, if_pos rfl] at h1; exact h1
  obtain ⟨b1, b2⟩ := endsF_bd its.length (its.map It.kids) E (by simp) he
  rw [List.length_map] at b1 b2
  refine ⟨E, ⟨h1, h3, b1, fun j hj => ?_, fun j hj => ?_⟩, h2⟩
  · have := b2 j (by omega)
    rw [List.getD_eq_getElem?_getD, List.getElem?_eq_getElem (by omega)]; simp only [Option.getD_some]; omega
  · have := b2 j hj
    rw [List.getD_eq_getElem?_getD, List.getElem?_eq_getElem hj]; simp only [Option.getD_some]; omega

/-- a row of numbers at the head of a block -/
theorem row_at {w : World} {b : Nat} {v : Value} {E : List Nat} (h : w.ownsRow b 3 1 v E.length (ints E)) (h0 : 0 < w.heap.size) : ∃ ao g cap, v = .slice ao E.length cap ∧ (E.length ≠ 0 → ao = some ⟨g, 0, none⟩) ∧ g < w.heap.size ∧ ∀ t (h : t < E.length), w.cell? ⟨g, t, none⟩ = some (.int .i64 E[t]) := by
  have h' := h
  obtain ⟨_, h1 | ⟨g, cap, cur, hv, _⟩⟩ := h'
  · exact ⟨none, 0, 0, by rw [h1.1, h1.2], fun h => absurd h1.2 h, h0, fun t ht => by omega⟩
  · refine ⟨_, g, cap, hv, fun _ => rfl, (h.lt g (by rw [hv]; rfl)).2, fun t ht => ?_⟩
    rw [hv] at h
    rw [h.cellAt t (by omega)]; simp [ints, ht]

theorem treeChildren_q (ao : Option Addr) (g cap : Nat) (E : List Nat) (from0 up1 : Nat) (fi ti : Int) (w : World) (hfi : fi = from0) (hti : ti = up1) (hn : E.length ≤ 1000000000) (hao : E.length ≠ 0 → ao = some ⟨g, 0, none⟩) (hg : g < w.heap.size)
    (hc : ∀ t (h : t < E.length), w.cell? ⟨g, t, none⟩ = some (.int .i64 E[t])) (hto : up1 ≤ E.length) (hE : ∀ j, j < up1 → j < E.getD j 0) (hE2 : ∀ j, j < E.length → E.getD j 0 ≤ E.length) (hf : from0 ≤ 1000000001) :
    Calls Tryd.prog 37 #[.slice ao E.length cap, .int .i64 fi, .int .i64 ti] w fun e w' => ∃ v, e = .returned v ∧ w'.ownsRow w.heap.size 3 1 v (trail E from0 up1).length (ints (trail E from0 up1)) ∧ Below w.heap.size w w' := by
  subst hfi hti
  exact treeChildren_any ao g cap E from0 up1 w hn hao hg hc hto hE hE2 hf
theorem check_ok (ao : Option Addr) (g cap n : Nat) (its : List It) (E : List Nat) (m : Int) (w : World) (hn : n ≤ 100000000) (hl : its.length = n) (hao : n ≠ 0 → ao = some ⟨g, 0, none⟩) (hg : g < w.heap.size)
    (hc : ItemsAt w g its) (ht : ∀ x ∈ its, x.text.size < 4294967281) (hM : w.cell? ⟨0, 0, none⟩ = some (.int .i64 m)) (hv : Vd its E) :
    Calls Tryd.prog 32 #[.slice ao n cap] w fun e w' => Below w.heap.size w w' ∧ ∃ v, e = .returned (.tuple #[v, .bool true]) ∧ w'.ownsRow w.heap.size 3 1 v E.length (ints E) := by
  have hch := check_any ao g cap n its m w hn hl hao hg hc ht hM
  unfold CheckPost at hch
  rw [hv.chk] at hch
  have hhi : decide (heightF 0 E [] 0 ≤ 257) = true := by simpa using hv.high
  simp only at hch
  rw [hhi] at hch
  exact hch

set_option maxHeartbeats 1000000 in
set_option maxRecDepth 100000 in
theorem roots_any (ao : Option Addr) (g cap n : Nat) (its : List It) (E : List Nat) (m : Int) (w : World) (hn : n ≤ 100000000) (hl : its.length = n) (hao : n ≠ 0 → ao = some ⟨g, 0, none⟩) (hg : g < w.heap.size)
    (hc : ItemsAt w g its) (ht : ∀ x ∈ its, x.text.size < 4294967281) (hM : w.cell? ⟨0, 0, none⟩ = some (.int .i64 m)) (hv : Vd its E) :
    Calls Tryd.prog 21 #[.slice ao n cap] w fun e w' => ∃ v, e = .returned v ∧ w'.ownsRow w.heap.size 3 1 v (trail E 0 n).length (ints (trail E 0 n)) ∧ Below w.heap.size w w' := by
  have hch := check_ok ao g cap n its E m w hn hl hao hg hc ht hM hv
  have hlen := hv.len
  have HV := Lib.hid hv
  clear hao hc ht hM hv
  go_enter Tryd.func21, Tryd.ntmps21
  go_wp2_with fail
  refine hch.mono ?_
  rintro e w2 ⟨hb2, v, rfl, ho2⟩
  obtain ⟨a2, g2, c2, rfl, r1, r2, r3⟩ := row_at ho2 (by have := hb2.size; omega)
  have htc := treeChildren_q a2 g2 c2 E 0 n 0 n w2 rfl rfl (by omega) r1 r2 r3 (by omega) (fun j hj => HV.out.up j (by omega)) HV.out.most (by omega)
  have HB2 := Lib.hid hb2
  rw [show E.length = n by omega] at htc
  clear hb2 ho2 r1 r2 r3 hch
  go_wp2_with (go_at_call 37; refine htc.mono ?_; rintro e w3 ⟨v3, rfl, ho3, hb3⟩)
  go_ret
  exact ⟨v3, rfl, ownsRow_mono ho3 HB2.out.size, HB2.out.trans (hb3.mono HB2.out.size)⟩

set_option maxHeartbeats 1000000 in
set_option maxRecDepth 100000 in
theorem children_any (ao : Option Addr) (g cap n i : Nat) (its : List It) (E : List Nat) (m : Int) (w : World) (hn : n ≤ 100000000) (hl : its.length = n) (hao : n ≠ 0 → ao = some ⟨g, 0, none⟩) (hg : g < w.heap.size)
    (hc : ItemsAt w g its) (ht : ∀ x ∈ its, x.text.size < 4294967281) (hM : w.cell? ⟨0, 0, none⟩ = some (.int .i64 m)) (hv : Vd its E) (hi : i < n) :
    Calls Tryd.prog 23 #[.slice ao n cap, .int .i64 i] w fun e w' => ∃ v, e = .returned v ∧ w'.ownsRow w.heap.size 3 1 v (trail E (i + 1) (E.getD i 0)).length (ints (trail E (i + 1) (E.getD i 0))) ∧ Below w.heap.size w w' := by
  have hch := check_ok ao g cap n its E m w hn hl hao hg hc ht hM hv
  have hlen := hv.len
  have HV := Lib.hid hv
  have hgd : E.getD i 0 = E[i]'(by omega) := by rw [List.getD_eq_getElem?_getD, List.getElem?_eq_getElem (by omega)]; rfl
  have hmost := hv.most i (by omega)
  clear hao hc ht hM hv
  go_enter Tryd.func23, Tryd.ntmps23
  go_wp2_with fail
  refine hch.mono ?_
  rintro e w2 ⟨hb2, v, rfl, ho2⟩
  obtain ⟨a2, g2, c2, rfl, r1, r2, r3⟩ := row_at ho2 (by have := hb2.size; omega)
  have htc := treeChildren_q a2 g2 c2 E (i + 1) (E.getD i 0) ((i : Int) + 1) (E.getD i 0) w2 (by omega) rfl (by omega) r1 r2 r3 hmost (fun j hj => HV.out.up j (by omega)) HV.out.most (by omega)
  have HB2 := Lib.hid hb2
  have hcl := r3 i (by omega)
  obtain rfl := r1 (by omega)
  rw [← hgd] at hcl
  have h0 : ¬ (i : Int) < 0 := by omega
  have h1 : ¬ (n : Int) ≤ (i : Int) := by omega
  have h2 : (i : Int) < (E.length : Int) := by omega
  have h3 : (0 : Int) ≤ (i : Int) := by omega
  rw [show E.length = n by omega] at htc
  clear hb2 ho2 r1 r2 r3 hch hgd
  obtain ⟨e0, he0⟩ : ∃ e0, E.getD i 0 = e0 := ⟨_, rfl⟩
  rw [he0] at htc hcl hmost
  have HE0 := Lib.hid he0
  clear he0
  go_wp2_with (go_at_call 37; refine htc.mono ?_; rintro e w3 ⟨v3, rfl, ho3, hb3⟩)
  go_ret
  exact ⟨v3, rfl, by rw [HE0.out]; exact ownsRow_mono ho3 HB2.out.size, HB2.out.trans (hb3.mono HB2.out.size)⟩
end Go.Proofs.YtmmohhaolgblkaaDoor

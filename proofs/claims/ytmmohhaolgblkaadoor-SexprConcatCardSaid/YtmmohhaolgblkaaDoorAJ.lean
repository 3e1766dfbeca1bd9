/- A valid list of items that the choices make. -/
import Derived.Test.YtmmohhaolgblkaaDoorAI
namespace Go.Proofs.YtmmohhaolgblkaaDoor
open Go.RowKit

/-- a slice of numbers that came in -/
structure ArgI (w : World) (ao : Option Addr) (len cap : Nat) : Prop where
  le : len ≤ cap
  most : cap ≤ maxLen
  rd : 0 < cap → ∃ b off, ao = some ⟨b, off, .none⟩ ∧ b < w.heap.size ∧ ∀ t, t < len → ∃ x : Int, w.cell? ⟨b, off + t, .none⟩ = some (.int .i64 x)
theorem ArgI.below {w w' : World} {ao : Option Addr} {len cap : Nat} (h : ArgI w ao len cap) (hb : Below w.heap.size w w') : ArgI w' ao len cap :=
  ⟨h.le, h.most, fun ha => let ⟨b, off, e, hl, hx⟩ := h.rd ha; ⟨b, off, e, Nat.lt_of_lt_of_le hl hb.size, fun t ht => let ⟨x, hx⟩ := hx t ht; ⟨x, (hb.cell (p := ⟨b, off + t, .none⟩) hl).trans hx⟩⟩⟩

def NewPost (w : World) (ao : Option Addr) (len cap : Nat) (e : Ending) (w' : World) : Prop :=
  e = .returned (.pointer (some ⟨w.heap.size, 0, none⟩)) ∧ w' = w.alloc (.cells #[.slice ao (min len 400) cap, .int .i64 0] 76)
set_option maxHeartbeats 400000 in
set_option maxRecDepth 100000 in
theorem new_any (ao : Option Addr) (len cap : Nat) (w : World) (h : ArgI w ao len cap) :
    Calls Tryd.prog 29 #[.slice ao len cap] w (NewPost w ao len cap) := by
  have hle := h.le
  have hm := h.most
  unfold maxLen at hm
  by_cases hc : cap = 0
  · subst hc
    have hl : len = 0 := by omega
    subst hl
    clear h
    cases ao with
    | none =>
      go_enter Tryd.func29, Tryd.ntmps29
      go_wp2
      go_ret
      exact ⟨rfl, rfl⟩
    | some a =>
      obtain ⟨b, off, spot⟩ := a
      cases spot with
      | none =>
        go_enter Tryd.func29, Tryd.ntmps29
        go_wp2
        go_ret
        exact ⟨rfl, rfl⟩
      | some sp =>
        go_enter Tryd.func29, Tryd.ntmps29
        go_wp2
        go_ret
        exact ⟨rfl, rfl⟩
  · obtain ⟨b, off, rfl, hb, _⟩ := h.rd (by omega)
    clear h
    by_cases hlt : len ≤ 400
    · have hmin : min (len : Int) 400 = len := by omega
      have hmin2 : min len 400 = len := by omega
      have hi1 : (len : Int) ≤ (cap : Int) := by omega
      go_enter Tryd.func29, Tryd.ntmps29
      go_wp2
      go_ret
      exact ⟨rfl, by rw [hmin2]⟩
    · have hmin : min (len : Int) 400 = 400 := by omega
      have hmin2 : min len 400 = 400 := by omega
      have hi1 : (400 : Int) ≤ (cap : Int) := by omega
      go_enter Tryd.func29, Tryd.ntmps29
      go_wp2
      go_ret
      exact ⟨rfl, by rw [hmin2]⟩

/-- the list that the choices make, in a slice of the call's own -/
def SeqPost (w : World) (e : Ending) (w' : World) : Prop :=
  ∃ (v : Value) (its : List It) (ts : List (List UInt8)), e = .returned v ∧ For 4 its ts ∧ ts.length ≤ 3 ∧ its.length ≤ 363 ∧ (∀ u ∈ ts, u.length ≤ 2000) ∧ (∀ x ∈ its, x.text.size ≤ 100) ∧
    w'.ownsRow w.heap.size 31 4 v its.length (flat its) ∧ Below w.heap.size w w'

set_option maxHeartbeats 2000000 in
set_option maxRecDepth 100000 in
theorem sequence_any (ao : Option Addr) (len cap : Nat) (w : World) (h : ArgI w ao len cap) :
    Calls Tryd.prog 14 #[.slice ao len cap] w (SeqPost w) := by
  obtain ⟨ti, hti, hz0, hz1, hz2⟩ := info_parts infoItem
  have hnew := new_any ao len cap w h
  have hch : Ch w.heap.size ao (min len 400) cap (w.alloc (.cells #[.slice ao (min len 400) cap, .int .i64 0] 76)) := by
    refine ⟨⟨0, Nat.zero_le _, heap_alloc_new w _⟩, Nat.min_le_right _ _, fun hn => ?_⟩
    have hle := h.le
    obtain ⟨b, off, rfl, hb, hx⟩ := h.rd (by omega)
    refine ⟨b, off, rfl, hb, fun t ht => ?_⟩
    obtain ⟨x, hx⟩ := hx t (by omega)
    exact ⟨x, (World.cell?_alloc_past _ _ _ hb).trans hx⟩
  have hbl : Below w.heap.size w (w.alloc (.cells #[.slice ao (min len 400) cap, .int .i64 0] 76)) := (Below.refl _ _).alloc (Nat.le_refl _) _
  generalize hC : w.heap.size = C at *
  have HCe := Lib.hid hC
  have HH := Lib.hid hch
  have HBl := Lib.hid hbl
  clear hC hch hbl h
  go_enter Tryd.func14, Tryd.ntmps14
  go_wp2_with fail
  refine hnew.mono ?_
  rintro e w1 ⟨he, rfl⟩
  rw [HCe.out] at he
  subst he
  have hnx := next_any C ao (min len 400) cap _ 4 (by omega) (by omega) HH.out
  clear hnew
  go_wp2_with fail
  refine hnx.mono ?_
  rintro e w2 ⟨r, hr, rfl, h2, hg2, hz⟩
  have H2 := Lib.hid h2
  have HB2 := Lib.hid (HBl.out.grown hg2 (by have := HCe.out; simp; omega) (fun k hk => by cases hk; exact Nat.le_refl _))
  have hC2 := h2.lt
  clear hnx h2 hg2 hz HH HBl
  go_wp2_with fail
  go_loopw [4, 5] (fun l cnt wr => ∃ (j : Nat) (its : List It) (ts : List (List UInt8)), j ≤ r ∧ cnt = .int .i64 ((r - j : Nat) : Int) ∧ For 4 its ts ∧ ts.length = j ∧ (∀ u ∈ ts, u.length ≤ 2000) ∧ its.length ≤ j * 121 ∧ (∀ x ∈ its, x.text.size ≤ 100) ∧ wr.ownsRow (C + 1) 31 4 l its.length (flat its) ∧ Ch C ao (min len 400) cap wr ∧ Below C w wr)
    (fun _ cnt _ => (intOf cnt).toNat)
  case atStart => exact ⟨0, [], [], Nat.zero_le _, rfl, .nil _, rfl, by simp, by simp, by simp, World.ownsRow_nil _ _ _ _, H2.out, HB2.out⟩
  case round =>
    obtain ⟨j, its, ts, hj, rfl, hF, htl, hts, hil, hst, hown, hch, hbel⟩ := hrel
    have HF := Lib.hid hF
    have HT := Lib.hid hts
    have HS := Lib.hid hst
    have HO := Lib.hid hown
    have HC := Lib.hid hch
    have HB := Lib.hid hbel
    have hCl := hch.lt
    clear hF hts hst hown hch hbel H2 HB2 hC2
    by_cases hlt : j < r
    · have hih := items_any 4 (by omega) C ao (min len 400) cap wr HC.out
      have hcp : (0 : Int) < ((r - j : Nat) : Int) := by omega
      go_wp2_with fail
      refine hih.mono ?_
      rintro e w3 ⟨v3, its3, t3, rfl, M⟩
      have h1i := M.tree.one_ne
      obtain ⟨g3, c3, rfl, hg3, hc3⟩ := ownsRow_shape M.row h1i
      have hO3 := Lib.hid (kept_but HO.out M.grown (by omega))
      have hB3 := Lib.hid (HB.out.grown M.grown (by omega) (fun k hk => by cases hk; exact Nat.le_refl _))
      have hfew := M.few
      have hNB := NB_le (show 4 ≤ 4 by omega)
      have hTB := TB_le (show 4 ≤ 4 by omega)
      have hsz4 := M.grown.size
      have HM := Lib.hid M
      clear M hih hc3
      go_wp2_with (at_builtin; refine wpList_append_own _ rfl (.tmp 14) (.tmp 16) 26 rfl (C + 1) 31 ti _ 4 40 Tryd.underlying26 hti hz0 hz1 hz2 rfl (by decide) _ its.length _ rfl hO3.out ⟨g3, 0, none⟩ its3.length c3 (flat its3) rfl (flat_len its3) (HM.out.row.cells rfl) (flat_one its3) (by unfold maxLen; omega) (by omega) (by omega) ?_)
      intro v' w4 hown4 hgrow4 _
      obtain ⟨g', cap', rfl, hg', _⟩ := ownsRow_shape hown4 (by omega)
      have hlt3 := hO3.out.lt
      have HCh := Lib.hid (HM.out.ch.grown hgrow4 (fun k hk => by have := (hlt3 k hk).1; omega))
      have HBb := Lib.hid (hB3.out.grown hgrow4 (by omega) (fun k hk => by have := (hlt3 k hk).1; omega))
      have HRo : Hid (w4.ownsRow (C + 1) 31 4 (.slice (some ⟨g', 0, none⟩) (its.length + its3.length) cap') (its ++ its3).length (flat (its ++ its3))) := Lib.hid (by
        rw [List.length_append, flat_append]; exact hown4)
      clear hown4 hgrow4 hlt3
      go_wp2
      go_roundw
      case rel => exact ⟨j + 1, its ++ its3, ts ++ [t3], hlt, congrArg (Value.int .i64) (by omega), HF.out.append HM.out.tree, by rw [List.length_append, htl]; rfl,
        fun u hu => by rw [List.mem_append] at hu; rcases hu with h | h; exact HT.out u h; rw [List.mem_singleton] at h; rw [h]; exact Nat.le_trans HM.out.short hTB,
        by rw [List.length_append]; omega,
        fun x hx => by rw [List.mem_append] at hx; rcases hx with h | h; exact HS.out x h; exact HM.out.texts x h,
        HRo.out, HCh.out, HBb.out⟩
      case measure => simp [intOf]; omega
    · have hjr : j = r := by omega
      subst hjr
      have hz0 : ¬ (0 : Int) < ((j - j : Nat) : Int) := by omega
      go_wp2
      go_ret
      exact ⟨_, its, ts, rfl, HF.out, by omega, by omega, HT.out, HS.out, by rw [HCe.out]; exact ownsRow_mono HO.out (by omega), by rw [HCe.out]; exact HB.out⟩
end Go.Proofs.YtmmohhaolgblkaaDoor

/- 'permitted' tells whether the fields of an item are permitted. -/
import Derived.Test.YtmmohhaolgblkaaDoorJ
import Derived.Deep.RegionHeld3
namespace Go.Proofs.YtmmohhaolgblkaaDoor
open Go.RowKit

def plainB (c : UInt8) : Bool := decide (32 ≤ c.toNat) && decide (c.toNat ≤ 126)
def permittedF (x : It) : Bool :=
  if x.kind = 5 then x.text.data.toList == []
  else if x.kind = 4 then x.text.data.toList.all plainB && x.kids == 0
  else if x.kind = 1 ∨ x.kind = 2 ∨ x.kind = 3 then x.text.data.toList.all Sx.wb && (x.kids == 0 && Sx.wkind x.text.data.toList == x.kind)
  else false
def It.val (x : It) : Value := .agg #[.int .i64 x.kind, .string x.text, .int .i64 x.kids, .int .i64 x.pos]

set_option maxHeartbeats 4000000 in
set_option maxRecDepth 100000 in
theorem permitted_any (x : It) (m : Int) (w : World) (hs : x.text.size < 4294967281) (hB : 0 < w.heap.size) (hM : w.cell? ⟨0, 0, none⟩ = some (.int .i64 m)) :
    Calls Tryd.prog 45 #[x.val] w fun e w' => e = .returned (.bool (permittedF x)) ∧ Below w.heap.size w w' := by
  have hbw : Below w.heap.size w (w.alloc (.cells #[.int .i64 x.kind, .string x.text, .int .i64 x.kids, .int .i64 x.pos] 31)) := (Below.refl _ _).alloc (Nat.le_refl _) _
  have HB := Lib.hid hbw
  clear hbw
  obtain ⟨kind, text, kids, pos⟩ := x
  simp only at hs
  unfold It.val
  by_cases h5 : kind = 5
  · have HF := Lib.hid (show permittedF ⟨kind, text, kids, pos⟩ = text.toList.isEmpty by unfold permittedF; simp only; rw [if_pos h5, ByteArray.toList_eq]; cases text.data.toList <;> rfl)
    have h5' : (kind == 5) = true := by simp [h5]
    clear h5
    go_enter Tryd.func45, Tryd.ntmps45
    go_wp2
    go_ret
    exact ⟨ret_bool (by rw [HF.out]), HB.out⟩
  · have h5' : (kind == 5) = false := by simp [h5]
    by_cases h4 : kind = 4
    · have h4' : (kind == 4) = true := by simp [h4]
      have HF := Lib.hid (show permittedF ⟨kind, text, kids, pos⟩ = (text.data.toList.all plainB && kids == 0) by unfold permittedF; simp only; rw [if_neg h5, if_pos h4])
      clear h4 h5
      go_enter Tryd.func45, Tryd.ntmps45
      go_wp2
      have c1 : (w.alloc (.cells #[.int .i64 kind, .string text, .int .i64 kids, .int .i64 pos] 31)).cell? ⟨w.heap.size, 1, none⟩ = some (.string text) := by rw [World.cell?_alloc_at _ _ _ _ rfl]; rfl
      have c2 : (w.alloc (.cells #[.int .i64 kind, .string text, .int .i64 kids, .int .i64 pos] 31)).cell? ⟨w.heap.size, 2, none⟩ = some (.int .i64 kids) := by rw [World.cell?_alloc_at _ _ _ _ rfl]; rfl
      generalize w.alloc (.cells #[.int .i64 kind, .string text, .int .i64 kids, .int .i64 pos] 31) = wz at *
      generalize hb : w.heap.size = b at *
      have HEb := Lib.hid hb
      clear hb
      go_loop [3] (fun i => ∃ k : Nat, k ≤ text.size ∧ i = .int .i64 k ∧ (text.data.toList.take k).all plainB = true) (fun i => text.size - (intOf i).toNat)
      case atStart => exact ⟨0, Nat.zero_le _, rfl, rfl⟩
      case round =>
        obtain ⟨k, hk, rfl, ha⟩ := hrel
        have HA := Lib.hid ha
        clear ha
        by_cases hlt : k < text.size
        · by_cases hd : plainB text[k] = true
          · have e1 : ¬ (text[k].toNat : Int) < 32 := by simp only [plainB, Bool.and_eq_true, decide_eq_true_eq] at hd; omega
            have e2 : ¬ 126 < (text[k].toNat : Int) := by simp only [plainB, Bool.and_eq_true, decide_eq_true_eq] at hd; omega
            have HD := Lib.hid hd
            clear hd
            go_wp2
            go_round
            case rel => exact ⟨k + 1, by omega, by go_num, all_snoc plainB text k hlt HA.out HD.out⟩
            case measure => simp [intOf]; omega
          · have HF2 : Hid (permittedF ⟨kind, text, kids, pos⟩ = false) := Lib.hid (by rw [HF.out, all_not plainB text k hlt hd]; rfl)
            by_cases h1 : (text[k].toNat : Int) < 32
            · clear hd
              go_wp2
              go_ret
              exact ⟨ret_bool (by rw [HF2.out]), by rw [HEb.out]; exact HB.out⟩
            · have h2 : 126 < (text[k].toNat : Int) := by simp only [plainB, Bool.and_eq_true, decide_eq_true_eq] at hd; omega
              clear hd
              go_wp2
              go_ret
              exact ⟨ret_bool (by rw [HF2.out]), by rw [HEb.out]; exact HB.out⟩
        · have HF2 : Hid (permittedF ⟨kind, text, kids, pos⟩ = (kids == 0)) := Lib.hid (by rw [HF.out, all_end plainB text k hlt HA.out]; rfl)
          clear HA
          go_wp2
          go_ret
          exact ⟨ret_bool (by rw [HF2.out]), by rw [HEb.out]; exact HB.out⟩
    · have h4' : (kind == 4) = false := by simp [h4]
      by_cases h123 : kind = 1 ∨ kind = 2 ∨ kind = 3
      · have HF := Lib.hid (show permittedF ⟨kind, text, kids, pos⟩ = (text.data.toList.all Sx.wb && (kids == 0 && Sx.wkind text.data.toList == kind)) by unfold permittedF; simp only; rw [if_neg h5, if_neg h4, if_pos h123])
        have hor : ((kind == 1) = true) ∨ ((kind == 1) = false ∧ (kind == 2) = true) ∨ ((kind == 1) = false ∧ (kind == 2) = false ∧ (kind == 3) = true) := by
          simp only [beq_iff_eq, beq_eq_false_iff_ne, ne_eq]; omega
        clear h4 h5 h123
        rcases hor with h1' | ⟨h1', h2'⟩ | ⟨h1', h2', h3'⟩
        all_goals
          go_enter Tryd.func45, Tryd.ntmps45
          go_wp2
          have c0 : (w.alloc (.cells #[.int .i64 kind, .string text, .int .i64 kids, .int .i64 pos] 31)).cell? ⟨w.heap.size, 0, none⟩ = some (.int .i64 kind) := by rw [World.cell?_alloc_at _ _ _ _ rfl]; rfl
          have c1 : (w.alloc (.cells #[.int .i64 kind, .string text, .int .i64 kids, .int .i64 pos] 31)).cell? ⟨w.heap.size, 1, none⟩ = some (.string text) := by rw [World.cell?_alloc_at _ _ _ _ rfl]; rfl
          have c2 : (w.alloc (.cells #[.int .i64 kind, .string text, .int .i64 kids, .int .i64 pos] 31)).cell? ⟨w.heap.size, 2, none⟩ = some (.int .i64 kids) := by rw [World.cell?_alloc_at _ _ _ _ rfl]; rfl
          have hM2 : (w.alloc (.cells #[.int .i64 kind, .string text, .int .i64 kids, .int .i64 pos] 31)).cell? ⟨0, 0, none⟩ = some (.int .i64 m) := (World.cell?_alloc_past _ _ _ (by exact hB)).trans hM
          have hsz : w.heap.size < (w.alloc (.cells #[.int .i64 kind, .string text, .int .i64 kids, .int .i64 pos] 31)).heap.size := by simp
          generalize w.alloc (.cells #[.int .i64 kind, .string text, .int .i64 kids, .int .i64 pos] 31) = wz at *
          generalize hb : w.heap.size = b at *
          have HEb := Lib.hid hb
          clear hb hM
          go_loop [4] (fun i => ∃ k : Nat, k ≤ text.size ∧ i = .int .i64 k ∧ (text.data.toList.take k).all Sx.wb = true) (fun i => text.size - (intOf i).toNat)
          case atStart => exact ⟨0, Nat.zero_le _, rfl, rfl⟩
          case round =>
            obtain ⟨k, hk, rfl, ha⟩ := hrel
            have HA := Lib.hid ha
            clear ha
            by_cases hlt : k < text.size
            · go_wp2_with (go_at_call 55; refine (isWordByte_any _ _).mono ?_; rintro e w' ⟨rfl, rfl⟩)
              · have hd : (!Sx.wb text[k]) = true := by assumption
                have HF2 : Hid (permittedF ⟨kind, text, kids, pos⟩ = false) := Lib.hid (by rw [HF.out, all_not Sx.wb text k hlt (by simpa using hd)]; rfl)
                go_ret
                exact ⟨ret_bool (by rw [HF2.out]), by rw [HEb.out]; exact HB.out⟩
              · have hd : (!Sx.wb text[k]) = false := by assumption
                go_round
                case rel => exact ⟨k + 1, by omega, by go_num, all_snoc Sx.wb text k hlt HA.out (by simpa using hd)⟩
                case measure => simp [intOf]; omega
            · have HF2 : Hid (permittedF ⟨kind, text, kids, pos⟩ = (kids == 0 && Sx.wkind text.data.toList == kind)) := Lib.hid (by rw [HF.out, all_end Sx.wb text k hlt HA.out]; rfl)
              clear HA
              by_cases h0 : (kids == 0) = true
              · have HF3 : Hid (permittedF ⟨kind, text, kids, pos⟩ = (Sx.wkind text.data.toList == kind)) := Lib.hid (by rw [HF2.out, h0]; rfl)
                go_wp2
                go_region_held3 (fun w' => w'.cell? ⟨b, 0, none⟩ = some (.int .i64 kind) ∧ w'.cell? ⟨b, 1, none⟩ = some (.string text) ∧ w'.cell? ⟨b, 2, none⟩ = some (.int .i64 kids)) (first | go_keep | exact ⟨q0, q1, q2⟩) ((go_at_call 56; refine (wordKind_any text m wz.drew hs hM2).mono ?_; rintro e w3 ⟨rfl, hb3⟩; have q0 := (hb3.cell (p := ⟨b, 0, none⟩) (by exact hsz)).trans c0; have q1 := (hb3.cell (p := ⟨b, 1, none⟩) (by exact hsz)).trans c1; have q2 := (hb3.cell (p := ⟨b, 2, none⟩) (by exact hsz)).trans c2; have HB3 := Lib.hid hb3; clear hb3))
                go_wp2
                go_ret
                exact ⟨ret_bool (by rw [HF3.out]), by rw [HEb.out]; exact (show Below b w wz.drew from below_drewN HB.out 1).trans (HB3.out.mono (Nat.le_of_lt hsz))⟩
              · have h0' : (kids == 0) = false := by simpa using h0
                have HF3 : Hid (permittedF ⟨kind, text, kids, pos⟩ = false) := Lib.hid (by rw [HF2.out, h0']; rfl)
                clear h0
                go_wp2
                go_quiet (fail)
                go_wp2
                go_ret
                exact ⟨ret_bool (by rw [HF3.out]), by rw [HEb.out]; exact below_drewN HB.out _⟩
      · have HF := Lib.hid (show permittedF ⟨kind, text, kids, pos⟩ = false by unfold permittedF; simp only; rw [if_neg h5, if_neg h4, if_neg h123])
        have h1' : (kind == 1) = false := by simp; omega
        have h2' : (kind == 2) = false := by simp; omega
        have h3' : (kind == 3) = false := by simp; omega
        clear h4 h5 h123
        go_enter Tryd.func45, Tryd.ntmps45
        go_wp2
        go_ret
        exact ⟨ret_bool (by rw [HF.out]), HB.out⟩
end Go.Proofs.YtmmohhaolgblkaaDoor

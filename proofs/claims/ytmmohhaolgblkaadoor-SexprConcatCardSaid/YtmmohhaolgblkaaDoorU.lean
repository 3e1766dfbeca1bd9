/- The statement on nested lists: its walk. -/
import Derived.Test.YtmmohhaolgblkaaDoorT
namespace Go.Proofs.YtmmohhaolgblkaaDoor
open Go.RowKit
theorem rep_snoc (k : Nat) (c : UInt8) : (⟨Array.replicate k c⟩ : ByteArray) ++ ⟨#[c]⟩ = ⟨(List.replicate (k + 1) c).toArray⟩ := by
  apply ByteArray.ext
  rw [ByteArray.data_append]
  show Array.replicate k c ++ #[c] = _
  apply Array.toList_inj.1
  simp [List.replicate_succ']
theorem rep_app (k : Nat) : (⟨Array.replicate k (40 : UInt8)⟩ : ByteArray) ++ ⟨Array.replicate k (41 : UInt8)⟩ = parens k := by
  apply ByteArray.ext
  rw [ByteArray.data_append]
  apply Array.toList_inj.1
  simp [parens]
theorem chain_ok (k : Nat) (h1 : 252 ≤ k) (h2 : k ≤ 257) : validF (chain k) = true := by
  have := List.all_eq_true.1 chain_valid (k - 252) (by simp; omega)
  rwa [show 252 + (k - 252) = k by omega] at this
theorem chain_texts : ∀ i, ∀ x ∈ chain i, x.text.size < 4294967281 := by
  intro i
  induction i with
  | zero => intro x h; simp [chain] at h
  | succ i ih =>
    intro x h
    rw [chain, List.mem_append] at h
    rcases h with h | h
    · cases hl : (List.range i).getLast? with
      | none => rw [hl] at h; exact ih x h
      | some j =>
        rw [hl] at h
        simp only [bumpAt] at h
        obtain ⟨t, ht, hx⟩ := List.mem_iff_getElem.1 h
        rw [List.getElem_modify] at hx
        rw [List.length_modify] at ht
        have := ih _ (List.getElem_mem ht)
        split at hx
        · subst hx; exact this
        · subst hx; exact this
    · simp at h; subst h; show ByteArray.size ⟨#[]⟩ < 4294967281; decide

set_option maxHeartbeats 2000000 in
set_option maxRecDepth 100000 in
theorem depth_any (n m : Int) (w : World) (hB : 0 < w.heap.size) (hM : w.cell? ⟨0, 0, none⟩ = some (.int .i64 m)) :
    Calls Tryd.prog 10 #[.int .i64 n] w fun e w' => e = .returned (.bool true) ∧ Below w.heap.size w w' := by
  have hmod0 : 0 ≤ modF n 12 := by unfold modF; omega
  have hmod1 : modF n 12 < 12 := by unfold modF; omega
  go_enter Tryd.func10, Tryd.ntmps10
  go_wp2_with (go_at_call 16; refine (mod_any _ _ _ (by omega) (by omega)).mono ?_; rintro e w' ⟨rfl, rfl⟩)
  generalize modF n 12 = r at *
  obtain ⟨q, rfl⟩ := Int.eq_ofNat_of_zero_le hmod0
  go_loop [4, 5, 6] (fun s t i => ∃ k : Nat, (k : Int) ≤ (q : Int) + 252 ∧ i = .int .i64 k ∧ s = .string ⟨(List.replicate k (40 : UInt8)).toArray⟩ ∧ t = .string ⟨(List.replicate k (41 : UInt8)).toArray⟩) (fun _ _ i => ((q : Int) + 252 - intOf i).toNat)
  case atStart => exact ⟨0, by omega, rfl, rfl, rfl⟩
  case round =>
    obtain ⟨k, hk, rfl, rfl, rfl⟩ := hrel
    by_cases hlt : (k : Int) < (q : Int) + 252
    · go_wp2
      go_round
      case rel => exact ⟨k + 1, by omega, by go_num, congrArg Value.string (rep_snoc k 40), congrArg Value.string (rep_snoc k 41)⟩
      case measure => simp [intOf]; omega
    · have hkq : ((k : Int) == (q : Int) + 256 - 4) = true := by simp; omega
      by_cases hsh : k ≤ 257
      · have hp : Calls Tryd.prog 25 #[.string (parens k)] w fun e w' => ∃ v, e = .returned (.tuple #[v, .int .i64 0, .int .i64 0]) ∧ w'.ownsRow w.heap.size 31 4 v k (flat (chain k)) ∧ Below w.heap.size w w' := by
          have := parse_any m (parens k) w hB hM
          rw [parens_shallow k hsh] at this
          unfold ParsePost at this
          simp only [chain_len] at this
          exact this
        have HV := Lib.hid (chain_ok k (by omega) hsh)
        have hle : (q : Int) + 256 - 4 ≤ 257 := by omega
        go_wp2_with fail
        rw [rep_app]
        refine hp.mono ?_
        rintro e w1 ⟨v, rfl, hown, hb1⟩
        obtain ⟨g, cap, hv, _⟩ := ownsRow_shape hown (by omega)
        subst hv
        have hM1 : w1.cell? ⟨0, 0, none⟩ = some (.int .i64 m) := (hb1.cell (p := ⟨0, 0, none⟩) hB).trans hM
        have hval := valid_any (some ⟨g, 0, none⟩) g cap k (chain k) m w1 (by omega) (chain_len k) (fun _ => rfl) (hown.lt g rfl).2 (fun i x hx j hj => ownsRow_item hown rfl hx j hj) (chain_texts k) hM1
        rw [HV.out] at hval
        have HB1 := Lib.hid hb1
        have HM1 := Lib.hid hM1
        have hB1 : 0 < w1.heap.size := Nat.lt_of_lt_of_le hB hb1.size
        clear hown hp hM1 hb1 hM
        go_wp2_with fail
        refine hval.mono ?_
        rintro e w2 ⟨rfl, hb2⟩
        have haw := awake_any m w2 (Nat.lt_of_lt_of_le hB1 hb2.size) ((hb2.cell (p := ⟨0, 0, none⟩) hB1).trans HM1.out)
        have HB2 := Lib.hid hb2
        clear hval hb2
        go_wp2_with (go_at_call 11; refine haw.mono ?_; rintro e w3 ⟨rfl, hb3⟩)
        go_ret
        exact ⟨rfl, (HB1.out.trans (HB2.out.mono HB1.out.size)).trans (hb3.mono (Nat.le_trans HB1.out.size HB2.out.size))⟩
      · have hp : Calls Tryd.prog 25 #[.string (parens k)] w fun e w' => ∃ a c, e = .returned (.tuple #[.slice a 0 c, .int .i64 257, .int .i64 6]) ∧ Below w.heap.size w w' := by
          have := parse_any m (parens k) w hB hM
          rw [parens_deep k (by omega) (by omega)] at this
          refine this.mono ?_
          rintro e w' ⟨v, he, ho, hb⟩
          obtain ⟨a, c, hv⟩ := ownsRow_len ho
          exact ⟨a, c, by rw [he, hv]; rfl, hb⟩
        have hle : ¬ (q : Int) + 256 - 4 ≤ 257 := by omega
        go_wp2_with fail
        rw [rep_app]
        refine hp.mono ?_
        rintro e w1 ⟨a, c, rfl, hb1⟩
        have hM1 : w1.cell? ⟨0, 0, none⟩ = some (.int .i64 m) := (hb1.cell (p := ⟨0, 0, none⟩) hB).trans hM
        have haw := awake_any m w1 (Nat.lt_of_lt_of_le hB hb1.size) hM1
        have HB1 := Lib.hid hb1
        clear hp hM1 hb1 hM
        go_wp2_with (go_at_call 11; refine haw.mono ?_; rintro e w3 ⟨rfl, hb3⟩)
        go_ret
        exact ⟨rfl, HB1.out.trans (hb3.mono HB1.out.size)⟩
end Go.Proofs.YtmmohhaolgblkaaDoor

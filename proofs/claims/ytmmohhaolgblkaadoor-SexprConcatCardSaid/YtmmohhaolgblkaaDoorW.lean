/- The reference's reading of a string in quotes. -/
import Derived.Test.YtmmohhaolgblkaaDoorL
namespace Go.Proofs.YtmmohhaolgblkaaDoor
open Go.RowKit

def TextAtPost (s : ByteArray) (p : Nat) (w : World) (e : Ending) (w' : World) : Prop :=
  (match Sx.textN (s.data.toList.drop (p + 1)) with
  | some x => e = .returned (.tuple #[.string ⟨x.1.toArray⟩, .int .i64 (p + 1 + x.2 : Nat)])
  | none => e = .returned (.tuple #[.string ⟨#[]⟩, .int .i64 (-1)])) ∧ w' = w
theorem TextAtPost.none_of {s : ByteArray} {p : Nat} {w : World} (h : Sx.textN (s.data.toList.drop (p + 1)) = none) : TextAtPost s p w (.returned (.tuple #[.string ⟨#[]⟩, .int .i64 (-1)])) w := by
  unfold TextAtPost; rw [h]; exact ⟨rfl, rfl⟩
theorem TextAtPost.some_of {s : ByteArray} {p : Nat} {w : World} {acc : List UInt8} {n : Nat} {q : Int} (h : Sx.textN (s.data.toList.drop (p + 1)) = some (acc, n)) (hq : q = (p + 1 + n : Nat)) : TextAtPost s p w (.returned (.tuple #[.string ⟨acc.toArray⟩, .int .i64 q])) w := by
  unfold TextAtPost; rw [h]; subst hq; exact ⟨rfl, rfl⟩
theorem acc_app (acc : List UInt8) (c : UInt8) : (⟨acc.toArray⟩ : ByteArray) ++ ⟨#[c]⟩ = ⟨(acc ++ [c]).toArray⟩ := by
  apply ByteArray.ext
  rw [ByteArray.data_append]
  apply Array.toList_inj.1
  simp
theorem extract_one (s : ByteArray) (k : Nat) (h : k < s.size) : s.extract k (k + 1) = ⟨#[s[k]]⟩ := by
  apply ByteArray.ext
  rw [ByteArray.data_extract]
  apply Array.toList_inj.1
  rw [Array.toList_extract]
  have := drop_at s k h
  rw [List.extract_eq_take_drop, this]; simp

set_option maxHeartbeats 2000000 in
set_option maxRecDepth 100000 in
theorem textAt_any (s : ByteArray) (p : Nat) (w : World) (hs : s.size ≤ 65536) (hp : p < s.size) :
    Calls Tryd.prog 41 #[.string s, .int .i64 p] w (TextAtPost s p w) := by
  go_enter Tryd.func41, Tryd.ntmps41
  go_wp2
  go_loop [1, 6] (fun i v => ∃ (k : Nat) (acc : List UInt8), p + 1 ≤ k ∧ k ≤ s.size ∧ acc.length ≤ k ∧ i = .int .i64 k ∧ v = .string ⟨acc.toArray⟩ ∧ TextRel s p k acc) (fun i _ => s.size - (intOf i).toNat)
  case atStart => exact ⟨p + 1, [], Nat.le_refl _, hp, by simp, by go_num, rfl, by unfold TextRel; simp⟩
  case round =>
    obtain ⟨k, acc, hk1, hk2, hacc, rfl, rfl, hrel⟩ := hrel
    have HR := Lib.hid hrel
    clear hrel
    by_cases hlt : k < s.size
    · by_cases hq : s[k].toNat = 34
      · have hq1 : ((s[k].toNat : Int) == 34) = true := by simp [hq]
        by_cases hn : k + 1 < s.size
        · have hn1 : decide ((k : Int) + 1 < s.size) = true := by simp; omega
          by_cases hr : s[k + 1].toNat = 34
          · have hr1 : ((s[k + 1].toNat : Int) == 34) = true := by simp [hr]
            have hx0 : (0 : Int) ≤ (k : Int) + 1 := by omega
            have hx1 : ((k : Int) + 1).toNat = k + 1 := by omega
            have hx2 : (k : Int) + 1 < (s.size : Int) := by omega
            have HN := Lib.hid (rel_quote HR.out hlt hn hq hr)
            have HC : Hid (s[k] = 34) := Lib.hid (UInt8.toNat_inj.1 hq)
            clear hq hr
            go_wp2
            go_round
            case rel => exact ⟨k + 2, acc ++ [s[k]], by omega, by omega, by simp; omega, by go_num, by rw [HC.out]; exact congrArg Value.string (acc_app acc 34), HN.out⟩
            case measure => simp [intOf]; omega
          · have hr1 : ((s[k + 1].toNat : Int) == 34) = false := by simp; omega
            have hx0 : (0 : Int) ≤ (k : Int) + 1 := by omega
            have hx1 : ((k : Int) + 1).toNat = k + 1 := by omega
            have hx2 : (k : Int) + 1 < (s.size : Int) := by omega
            have HN := Lib.hid (rel_close HR.out hlt hq (fun h => hr))
            clear hq hr
            go_wp2
            go_ret2
            exact TextAtPost.some_of HN.out.choose_spec.1 (by have := HN.out.choose_spec.2; omega)
        · have hn1 : decide ((k : Int) + 1 < s.size) = false := by simp; omega
          have HN := Lib.hid (rel_close HR.out hlt hq (fun h => absurd h hn))
          clear hq
          go_wp2
          go_ret2
          exact TextAtPost.some_of HN.out.choose_spec.1 (by have := HN.out.choose_spec.2; omega)
      · have hq1 : ((s[k].toNat : Int) == 34) = false := by simp; omega
        by_cases hbad : s[k].toNat < 32 ∨ 126 < s[k].toNat
        · have HN := Lib.hid (rel_bad HR.out hlt hq hbad)
          by_cases hlo : (s[k].toNat : Int) < 32
          all_goals
            go_wp2
            go_ret2
            exact TextAtPost.none_of HN.out
        · have hlo : ¬ (s[k].toNat : Int) < 32 := by omega
          have hhi : ¬ 126 < (s[k].toNat : Int) := by omega
          have HN := Lib.hid (rel_byte HR.out hlt hq hbad)
          have HX := Lib.hid (extract_one s k hlt)
          clear hq hbad
          go_wp2
          go_round
          case rel => exact ⟨k + 1, acc ++ [s[k]], by omega, by omega, by simp; omega, by go_num, by rw [HX.out]; exact congrArg Value.string (acc_app acc s[k]), HN.out⟩
          case measure => simp [intOf]; omega
    · have HN := Lib.hid (rel_end HR.out hlt)
      go_wp2
      go_ret2
      exact TextAtPost.none_of HN.out
theorem textAt_none (s : ByteArray) (p : Nat) (w : World) (hs : s.size ≤ 65536) (hp : p < s.size) (h : Sx.textN (s.data.toList.drop (p + 1)) = none) :
    Calls Tryd.prog 41 #[.string s, .int .i64 p] w fun e w' => e = .returned (.tuple #[.string ⟨#[]⟩, .int .i64 (-1)]) ∧ w' = w := by
  have := textAt_any s p w hs hp
  unfold TextAtPost at this
  rw [h] at this
  exact this
theorem textAt_some (s : ByteArray) (p : Nat) (w : World) (hs : s.size ≤ 65536) (hp : p < s.size) {T : List UInt8} {n : Nat} (h : Sx.textN (s.data.toList.drop (p + 1)) = some (T, n)) :
    Calls Tryd.prog 41 #[.string s, .int .i64 p] w fun e w' => e = .returned (.tuple #[.string ⟨T.toArray⟩, .int .i64 (p + 1 + n : Nat)]) ∧ w' = w := by
  have := textAt_any s p w hs hp
  unfold TextAtPost at this
  rw [h] at this
  exact this
end Go.Proofs.YtmmohhaolgblkaaDoor

/- strings.Builder's WriteString; ReplaceAll at a quote. -/
import Derived.Test.YtmmohhaolgblkaaDoorF
import Derived.Test.YtmmohhaolgblkaaDoorAD
import Derived.Lib.Replace
import Derived.Lib.IndexLaws
namespace Go.Proofs.YtmmohhaolgblkaaDoor
open Go.RowKit

set_option maxHeartbeats 2000000 in
set_option maxRecDepth 100000 in
theorem writeString_any (B b : Nat) (bs : List Value) (s : ByteArray) (w : World) (h : Lib.IsBuilder 59 5 B b bs w) (hlen : bs.length + s.size ≤ 140737488355328) (hBw : B ≤ w.heap.size) :
    Calls Tryd.prog 50 #[.pointer (some ⟨b, 0, none⟩), .string s] w fun e w' => e = .returned (.tuple #[.int .i64 s.size, .nilIface]) ∧ Lib.IsBuilder 59 5 B b (bs ++ Lib.strCells s) w' ∧ Below B w w' := by
  obtain ⟨i0, hi, hz0, hz1, hz2⟩ := info_parts infoByte
  go_enter Tryd.func50, Tryd.ntmps50
  go_wp2_with (go_at_call 52; refine (copyCheck_any B b bs _ h).mono ?_)
  rintro e w1 ⟨rfl, h1, hb1⟩
  obtain ⟨hB, v, hbk, hown, hne⟩ := h1
  have c0 : w1.cell? ⟨b, 0, none⟩ = some (.pointer (some ⟨b, 0, none⟩)) := by rw [Lib.cell_of_heap hbk]; rfl
  have c1 : w1.cell? ⟨b, 1, none⟩ = some v := by rw [Lib.cell_of_heap hbk]; rfl
  have hlt : b < w1.heap.size := by
    rcases Nat.lt_or_ge b w1.heap.size with h' | h'
    · exact h'
    · simp [Array.getElem?_eq_none h'] at hbk
  go_wp2_with (at_builtin; refine Lib.wpList_append_own_string _ rfl (.tmp 12) (.tmp 13) 52 9 rfl B 5 i0 Tryd.underlying52 Tryd.underlying9 hi hz0 hz1 hz2 _ _ _ rfl hown s rfl ?c3 ?c4 ?c5 ?_)
  case c3 => unfold maxLen; omega
  case c4 => omega
  case c5 => have := hb1.size; omega
  intro v' w2 hown' hgrow _
  have hb2 : w2.heap[b]? = some (.cells #[.pointer (some ⟨b, 0, none⟩), v] 59 (0, 0)) := by
    rw [hgrow.block b hlt (fun e => hne e.symm)]
    exact hbk
  have d0 : w2.cell? ⟨b, 0, none⟩ = some (.pointer (some ⟨b, 0, none⟩)) := by rw [Lib.cell_of_heap hb2]; rfl
  have d1 : w2.cell? ⟨b, 1, none⟩ = some v := by rw [Lib.cell_of_heap hb2]; rfl
  have f1 : w2.frozen? ⟨b, 1, none⟩ = false := Lib.frozen_of_heap hb2 1
  have hsl : (Lib.strCells s).length = s.size := by unfold Lib.strCells; rw [List.length_map, len_data]
  have hb3 : Below B w w2 := hb1.grown hgrow (by have := hb1.size; omega) (fun k hk => (hown.lt k hk).1)
  obtain ⟨a, cap, rfl⟩ := ownsRow_len hown'
  go_wp2
  go_ret2
  refine ⟨rfl, .inr ?_, ?_⟩
  · exact Lib.BuilderAt.put (T := 59) (e := 5) hB hb2 (bs' := bs ++ Lib.strCells s) (by rw [List.length_append, hsl]; exact hown') (by decide)
  · exact hb3.setCell (p := ⟨b, 1, none⟩) hB _

theorem index_ne (c : UInt8) (l : List UInt8) (h : c ≠ 34) : Lib.index (c :: l) [34] = if Lib.index l [34] == -1 then -1 else Lib.index l [34] + 1 := by
  have := Lib.index_drop (s := c :: l) (sub := [34]) (i := 1) (fun j hj => by
    obtain rfl : j = 0 := by omega
    simp [Lib.occAt, List.isPrefixOf, Ne.symm h]) (by simp)
  simpa using this
theorem index_eq (l : List UInt8) : Lib.index (34 :: l) [34] = (0 : Nat) :=
  Lib.index_hit (i := 0) (fun j hj => by omega) (Nat.zero_le _) (by simp [Lib.occAt])
theorem replaceK_ne (new : List UInt8) (c : UInt8) (l : List UInt8) (h : c ≠ 34) : ∀ k, Lib.replaceK [34] new k (c :: l) = c :: Lib.replaceK [34] new k l
  | 0 => rfl
  | k + 1 => by
    have hge := Lib.index_ge l [34]
    by_cases hm : Lib.index l [34] = -1
    · have h1 : Lib.index (c :: l) [34] = -1 := by rw [index_ne c l h, hm]; rfl
      simp only [Lib.replaceK]
      rw [h1, hm]; rfl
    · obtain ⟨i, hi⟩ : ∃ i : Nat, Lib.index l [34] = i := ⟨(Lib.index l [34]).toNat, by omega⟩
      have h1 : Lib.index (c :: l) [34] = ((i + 1 : Nat) : Int) := by
        rw [index_ne c l h, hi]
        have : ((i : Int) == -1) = false := by simp
        rw [this]; simp
      rw [Lib.replaceK_hit _ _ _ _ _ h1, Lib.replaceK_hit _ _ _ _ _ hi]
      simp
theorem replaceAll_quoted : ∀ t : List UInt8, Lib.replaceAll t [34] [34, 34] = quoted t := by
  have key : ∀ t : List UInt8, Lib.replaceK [34] [34, 34] (Lib.count t [34]) t = quoted t := by
    intro t
    induction t with
    | nil => simp [Lib.count_one, Lib.replaceK, quoted]
    | cons c l ih =>
      by_cases h : c = 34
      · subst h
        rw [Lib.count_cons_eq, Nat.add_comm, Lib.replaceK_hit _ _ _ _ 0 (index_eq l)]
        simp only [List.take_zero, List.nil_append, List.length_singleton, Nat.zero_add, List.drop_succ_cons, List.drop_zero]
        rw [ih]
        simp [quoted]
      · rw [Lib.count_cons_ne _ _ _ h, replaceK_ne _ _ _ h, ih]
        have h34 : ¬ c.toNat = 34 := fun e => h (UInt8.toNat_inj.1 e)
        simp [quoted, h34]
  intro t
  unfold Lib.replaceAll Lib.replace Lib.replaceNum
  rw [if_neg (by decide), if_pos (.inl (by decide))]
  exact key t
end Go.Proofs.YtmmohhaolgblkaaDoor

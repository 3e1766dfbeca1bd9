/- The reference's FromInt, at every int. -/
import Derived.Test.YtgehimcngljmnaaGreatDoorX
namespace Go.Proofs.YtgehimcngljmnaaGreatDoor
open Go.RowKit Nmx

/-- where the loop stands -/
def DecRel (n m : Nat) (acc : List UInt8) : Prop := (m ≠ 0 ∨ acc = [] → decN m ++ acc = decN n) ∧ (m = 0 → acc ≠ [] → acc = decN n)
theorem dec_start (n : Nat) : DecRel n n [] := ⟨fun _ => by simp, fun _ h => absurd rfl h⟩
theorem dec_step {n m : Nat} {acc : List UInt8} (h : DecRel n m acc) (hm : m ≠ 0 ∨ acc = []) : DecRel n (m / 10) (dg (m % 10) :: acc) := by
  have h1 := h.1 hm
  refine ⟨fun h2 => ?_, fun h2 _ => ?_⟩
  · have : m / 10 ≠ 0 := by rcases h2 with h2 | h2; exact h2; cases h2
    rw [← h1, decN_big (n := m) (by omega)]; simp
  · have h10 : m < 10 := by omega
    rw [← h1, decN_small h10, Nat.mod_eq_of_lt h10]; rfl
theorem dec_len {n m : Nat} {acc : List UInt8} (h : DecRel n m acc) (hn : n ≤ 9223372036854775808) : acc.length ≤ 19 := by
  have := decN_len_le (n := n) (k := 19) (by omega) (by omega)
  by_cases hm : m ≠ 0 ∨ acc = []
  · have := congrArg List.length (h.1 hm); rw [List.length_append] at this; omega
  · have := h.2 (by omega) (by simp at hm; exact hm.2); rw [this]; omega
theorem conv_one (w : World) (c : UInt8) (k : Int) (hk : k = c.toNat) : Sem.run Tryz.prog (convert 52 9 (Value.slice (some { block := w.heap.size, off := 0 }) 1 1)) (w.alloc (.cells #[.int .u8 k] 5)) = .ok (.string ⟨#[c]⟩) (w.alloc (.cells #[.int .u8 k] 5)) := by
  subst hk
  refine run_convert_bytes_back (P := Tryz.prog) _ 52 9 5 ⟨w.heap.size, 0, none⟩ 1 [c] Tryz.underlying52 Tryz.underlying5 Tryz.underlying9 ?_
  intro j hj
  simp at hj
  subst hj
  exact (World.news_of_block (cs := #[.int .u8 (c.toNat : Int)]) (t := 5) (fr := (0, 0)) (heap_alloc_new w _)) 0 _ (by simp)
theorem cons_app (c : UInt8) (acc : List UInt8) : (⟨#[c]⟩ : ByteArray) ++ ⟨acc.toArray⟩ = ⟨(c :: acc).toArray⟩ := by
  apply ByteArray.ext
  rw [ByteArray.data_append]
  apply Array.toList_inj.1
  simp
theorem decI_sgn (b : Bool) (n : Nat) (h : b = true → 0 < n) : decI (sgn b n) = if b then 45 :: decN n else decN n := by
  cases b
  · exact decI_nat n
  · exact decI_neg n (h rfl)

section
set_option maxRecDepth 100000
set_option maxHeartbeats 4000000
theorem refFromInt_pos (n : Nat) (w : World) (hn : n ≤ 9223372036854775807) :
    Calls Tryz.prog 19 #[.int .i64 ((n : Int))] w fun e w' => e = .returned (.string ⟨(decI ((n : Int))).toArray⟩) ∧ Below w.heap.size w w' := by
  have HS : Hid (decI ((n : Int)) = decN n) := Lib.hid (decI_nat n)
  go_enter Tryz.func19, Tryz.ntmps19
  go_wp2
  generalize hb : w.heap.size = b at *
  have HB := Lib.hid hb
  clear hb
  go_loopw [3, 4] (fun sv v wr => ∃ (m : Nat) (acc : List UInt8), m ≤ n ∧ v = .int .i64 ((m : Int)) ∧ sv = .string ⟨acc.toArray⟩ ∧ Below b w wr ∧ DecRel n m acc)
    (fun sv v _ => (intOf v).natAbs + (match sv with | .string t => if t.size = 0 then 1 else 0 | _ => 0))
  case atStart => exact ⟨n, [], Nat.le_refl _, rfl, rfl, Below.refl _ _, dec_start n⟩
  case round =>
    obtain ⟨m, acc, hm, rfl, rfl, hbel, hd⟩ := hrel
    have hlen := dec_len hd (by omega)
    have HW := Lib.hid hbel
    have HD := Lib.hid hd
    have hsz := hbel.size
    clear hbel hd
    have HT1 : Int.tmod ((m : Int)) 10 = ((m % 10 : Nat) : Int) := by rw [Int.tmod_eq_emod_of_nonneg (by omega)]; rfl
    have HT2 : Int.tdiv ((m : Int)) 10 = ((m / 10 : Nat) : Int) := by rw [Int.tdiv_eq_ediv_of_nonneg (by omega)]; rfl
    have hd10 : m % 10 < 10 := Nat.mod_lt _ (by omega)
    by_cases hm0 : m = 0
    · subst hm0
      by_cases ha : acc = []
      · subst ha
        have HN := Lib.hid (dec_step HD.out (.inr rfl))
        have hcv := conv_one wr (dg 0) 48 (by decide)
        go_wp2
        refine ⟨⟨0, [dg 0], Nat.zero_le _, rfl, rfl, HW.out.alloc (by have := HB.out; omega) _, ?_⟩, ?_⟩
        · exact HN.out
        · simp [intOf]; decide
      · have HF := Lib.hid (HD.out.2 rfl ha)
        have hne : acc.isEmpty = false := by simpa using ha
        go_wp2
        go_ret
        exact ⟨ret_str (by rw [HS.out, HF.out]), by rw [HB.out]; exact HW.out⟩
    · have hmb : (((m : Int)) != 0) = true := by simp; omega
      have HN := Lib.hid (dec_step HD.out (.inl hm0))
      obtain ⟨r, hr⟩ : ∃ r, m % 10 = r := ⟨_, rfl⟩
      obtain ⟨q, hq⟩ : ∃ q, m / 10 = q := ⟨_, rfl⟩
      have hqm : q ≤ m := by omega
      have hql : q < m := by omega
      rw [hr] at HT1 hd10
      rw [hq] at HT2
      rw [hr, hq] at HN
      have hcv := conv_one wr (dg r) (48 + (r : Int)) (by rw [dg_toNat hd10]; omega)
      have hmr : (m : Int) % 10 = (r : Int) := by omega
      have hmq : (m : Int) / 10 = (q : Int) := by omega
      clear hr hq
      go_wp2
      refine ⟨⟨q, dg r :: acc, by omega, by go_num, congrArg Value.string (cons_app _ _), HW.out.alloc (by have := HB.out; omega) _, HN.out⟩, ?_⟩
      rw [cons_app]
      simp [intOf, ByteArray.size]
      omega
theorem refFromInt_neg (n : Nat) (w : World) (hn : n ≤ 9223372036854775808) (hp : 0 < n) :
    Calls Tryz.prog 19 #[.int .i64 (-(n : Int))] w fun e w' => e = .returned (.string ⟨(decI (-(n : Int))).toArray⟩) ∧ Below w.heap.size w w' := by
  have HS : Hid (decI (-(n : Int)) = 45 :: decN n) := Lib.hid (decI_neg n hp)
  have hlt : -(n : Int) < 0 := by omega
  go_enter Tryz.func19, Tryz.ntmps19
  go_wp2
  generalize hb : w.heap.size = b at *
  have HB := Lib.hid hb
  clear hb
  go_loopw [3, 4] (fun sv v wr => ∃ (m : Nat) (acc : List UInt8), m ≤ n ∧ v = .int .i64 (-(m : Int)) ∧ sv = .string ⟨acc.toArray⟩ ∧ Below b w wr ∧ DecRel n m acc)
    (fun sv v _ => (intOf v).natAbs + (match sv with | .string t => if t.size = 0 then 1 else 0 | _ => 0))
  case atStart => exact ⟨n, [], Nat.le_refl _, rfl, rfl, Below.refl _ _, dec_start n⟩
  case round =>
    obtain ⟨m, acc, hm, rfl, rfl, hbel, hd⟩ := hrel
    have hlen := dec_len hd (by omega)
    have HW := Lib.hid hbel
    have HD := Lib.hid hd
    have hsz := hbel.size
    clear hbel hd
    have HT1 : Int.tmod (-(m : Int)) 10 = -((m % 10 : Nat) : Int) := by rw [Int.neg_tmod, Int.tmod_eq_emod_of_nonneg (by omega)]; rfl
    have HT2 : Int.tdiv (-(m : Int)) 10 = -((m / 10 : Nat) : Int) := by rw [Int.neg_tdiv, Int.tdiv_eq_ediv_of_nonneg (by omega)]; rfl
    have hd10 : m % 10 < 10 := Nat.mod_lt _ (by omega)
    by_cases hm0 : m = 0
    · subst hm0
      by_cases ha : acc = []
      · subst ha
        have HN := Lib.hid (dec_step HD.out (.inr rfl))
        have hcv := conv_one wr (dg 0) 48 (by decide)
        exfalso
        have h1 := HD.out.1 (.inr rfl)
        rw [List.append_nil] at h1
        have := decN_inj h1
        omega
      · have HF := Lib.hid (HD.out.2 rfl ha)
        have hne : acc.isEmpty = false := by simpa using ha
        go_wp2
        go_ret
        exact ⟨ret_str (by rw [HS.out, HF.out]; exact cons_app 45 (decN n)), by rw [HB.out]; exact HW.out⟩
    · have hmb : ((-(m : Int)) != 0) = true := by simp; omega
      have HN := Lib.hid (dec_step HD.out (.inl hm0))
      obtain ⟨r, hr⟩ : ∃ r, m % 10 = r := ⟨_, rfl⟩
      obtain ⟨q, hq⟩ : ∃ q, m / 10 = q := ⟨_, rfl⟩
      have hqm : q ≤ m := by omega
      have hql : q < m := by omega
      rw [hr] at HT1 hd10
      rw [hq] at HT2
      rw [hr, hq] at HN
      have hcv := conv_one wr (dg r) (48 + (r : Int)) (by rw [dg_toNat hd10]; omega)
      have hmr : (m : Int) % 10 = (r : Int) := by omega
      have hmq : (m : Int) / 10 = (q : Int) := by omega
      clear hr hq
      by_cases hr0 : r = 0
      · subst hr0
        have hcv0 := conv_one wr (dg 0) 48 (by decide)
        go_wp2
        refine ⟨⟨q, dg 0 :: acc, by omega, rfl, congrArg Value.string (cons_app _ _), HW.out.alloc (by have := HB.out; omega) _, HN.out⟩, ?_⟩
        rw [cons_app]
        simp [intOf, ByteArray.size]
        omega
      · have hrn : -(r : Int) < 0 := by omega
        go_wp2
        refine ⟨⟨q, dg r :: acc, by omega, rfl, congrArg Value.string (cons_app _ _), HW.out.alloc (by have := HB.out; omega) _, HN.out⟩, ?_⟩
        rw [cons_app]
        simp [intOf, ByteArray.size]
        omega
theorem refFromInt_any (z : Int) (w : World) (h1 : -9223372036854775808 ≤ z) (h2 : z ≤ 9223372036854775807) :
    Calls Tryz.prog 19 #[.int .i64 z] w fun e w' => e = .returned (.string ⟨(decI z).toArray⟩) ∧ Below w.heap.size w w' := by
  by_cases hz : z < 0
  · have := refFromInt_neg z.natAbs w (by omega) (by omega)
    rw [show -(z.natAbs : Int) = z by omega] at this
    exact this
  · have := refFromInt_pos z.natAbs w (by omega)
    rw [show (z.natAbs : Int) = z by omega] at this
    exact this
end
end Go.Proofs.YtgehimcngljmnaaGreatDoor

/- The reference's FromInt at numbers that are not negative. -/
import Derived.Test.YtmmohhaolgblkaaDoorS
import Derived.Test.YtmmohhaolgblkaaDoorK
import Derived.Deep.AppendLies
namespace Go.Proofs.YtmmohhaolgblkaaDoor
open Go.RowKit

def dg (d : Nat) : UInt8 := UInt8.ofNat (48 + d)
def decN (n : Nat) : List UInt8 := if _h : n < 10 then [dg n] else decN (n / 10) ++ [dg (n % 10)]
termination_by n
decreasing_by omega
theorem decN_small {n : Nat} (h : n < 10) : decN n = [dg n] := by rw [decN, dif_pos h]
theorem decN_big {n : Nat} (h : ¬ n < 10) : decN n = decN (n / 10) ++ [dg (n % 10)] := by rw [decN, dif_neg h]
theorem decN_ne (n : Nat) : decN n ≠ [] := by
  by_cases h : n < 10
  · rw [decN_small h]; simp
  · rw [decN_big h]; simp
theorem digit_toNat {d : Nat} (h : d < 10) : (dg d).toNat = 48 + d := by
  unfold dg; rw [UInt8.toNat_ofNat']; omega
theorem digit_dig {d : Nat} (h : d < 10) : Sx.dig (dg d) = true := by
  simp only [Sx.dig, digit_toNat h, Bool.and_eq_true, decide_eq_true_eq]; omega
theorem decN_digits (n : Nat) : (decN n).all Sx.dig = true := by
  induction n using Nat.strongRecOn with
  | _ n ih =>
    by_cases h : n < 10
    · rw [decN_small h]; simp only [List.all_cons, List.all_nil, Bool.and_true]; exact digit_dig h
    · rw [decN_big h, List.all_append, ih (n / 10) (by omega)]
      simp only [List.all_cons, List.all_nil, Bool.and_true, Bool.true_and]
      exact digit_dig (Nat.mod_lt _ (by omega))
theorem decN_head (n : Nat) (h : n ≠ 0) : ((decN n).headD 0).toNat ≠ 48 := by
  induction n using Nat.strongRecOn with
  | _ n ih =>
    by_cases h10 : n < 10
    · rw [decN_small h10, List.headD_cons, digit_toNat h10]; omega
    · have := ih (n / 10) (by omega) (by omega)
      rw [decN_big h10]
      match hd : decN (n / 10), decN_ne (n / 10) with
      | c :: r, _ => rw [hd] at this; exact this
theorem decN_numeral (n : Nat) : Sx.numeral (decN n) = true := by
  unfold Sx.numeral
  rw [decN_digits n, Bool.true_and]
  by_cases h : n = 0
  · subst h; rw [decN_small (by omega)]; rfl
  · have h1 := decN_head n h
    have h2 := decN_ne n
    rw [Bool.or_eq_true]
    right
    rw [Bool.and_eq_true]
    refine ⟨by simpa using h2, ?_⟩
    rw [bne_iff_ne]
    intro e
    rw [e] at h1; exact h1 rfl
theorem decN_len (k : Nat) : ∀ n, n < 10 ^ (k + 1) → (decN n).length ≤ k + 1 := by
  induction k with
  | zero => intro n h; rw [decN_small (by simpa using h)]; simp
  | succ k ih =>
    intro n h
    by_cases h10 : n < 10
    · rw [decN_small h10]; simp
    · rw [decN_big h10, List.length_append]
      have := ih (n / 10) (by rw [Nat.div_lt_iff_lt_mul (by omega)]; rw [Nat.pow_succ] at h; exact h)
      simp; omega

/-- where the loop stands -/
def DecRel (n m : Nat) (acc : List UInt8) : Prop := (m ≠ 0 ∨ acc = [] → decN m ++ acc = decN n) ∧ (m = 0 → acc ≠ [] → acc = decN n)
theorem dec_start (n : Nat) : DecRel n n [] := ⟨fun _ => by simp, fun _ h => absurd rfl h⟩
theorem dec_step {n m : Nat} {acc : List UInt8} (h : DecRel n m acc) (hm : m ≠ 0 ∨ acc = []) : DecRel n (m / 10) (dg (m % 10) :: acc) := by
  have h1 := h.1 hm
  refine ⟨fun h2 => ?_, fun h2 _ => ?_⟩
  · have : m / 10 ≠ 0 := by rcases h2 with h2 | h2; exact h2; cases h2
    rw [← h1, decN_big (n := m) (by omega)]; simp
  · have h10 : m < 10 := by omega
    rw [← h1, decN_small h10, Nat.mod_eq_of_lt h10]; rfl

theorem conv_one (w : World) (c : UInt8) (k : Int) (hk : k = c.toNat) : Sem.run Tryd.prog (convert 52 9 (Value.slice (some { block := w.heap.size, off := 0 }) 1 1)) (w.alloc (.cells #[.int .u8 k] 5)) = .ok (.string ⟨#[c]⟩) (w.alloc (.cells #[.int .u8 k] 5)) := by
  subst hk
  refine run_convert_bytes_back (P := Tryd.prog) _ 52 9 5 ⟨w.heap.size, 0, none⟩ 1 [c] Tryd.underlying52 Tryd.underlying5 Tryd.underlying9 ?_
  intro j hj
  simp at hj
  subst hj
  exact (World.news_of_block (cs := #[.int .u8 (c.toNat : Int)]) (t := 5) (fr := (0, 0)) (heap_alloc_new w _)) 0 _ (by simp)
theorem cons_app (c : UInt8) (acc : List UInt8) : (⟨#[c]⟩ : ByteArray) ++ ⟨acc.toArray⟩ = ⟨(c :: acc).toArray⟩ := by
  apply ByteArray.ext
  rw [ByteArray.data_append]
  apply Array.toList_inj.1
  simp
theorem dec_len {n m : Nat} {acc : List UInt8} (h : DecRel n m acc) (hn : n < 1000000000) : acc.length ≤ 9 := by
  have := decN_len 8 n (by omega)
  by_cases hm : m ≠ 0 ∨ acc = []
  · have := congrArg List.length (h.1 hm); rw [List.length_append] at this; omega
  · have := h.2 (by omega) (by simp at hm; exact hm.2); rw [this]; omega

set_option maxHeartbeats 2000000 in
set_option maxRecDepth 100000 in
theorem fromInt_any (n : Nat) (w : World) (hn : n < 1000000000) :
    Calls Tryd.prog 44 #[.int .i64 n] w fun e w' => e = .returned (.string ⟨(decN n).toArray⟩) ∧ Below w.heap.size w w' := by
  go_enter Tryd.func44, Tryd.ntmps44
  go_wp2
  generalize hb : w.heap.size = b at *
  have HB := Lib.hid hb
  clear hb
  go_loopw [3, 4] (fun sv v wr => ∃ (m : Nat) (acc : List UInt8), m ≤ n ∧ v = .int .i64 m ∧ sv = .string ⟨acc.toArray⟩ ∧ Below b w wr ∧ DecRel n m acc)
    (fun sv v _ => (intOf v).toNat + (match sv with | .string t => if t.size = 0 then 1 else 0 | _ => 0))
  case atStart => exact ⟨n, [], Nat.le_refl _, rfl, rfl, Below.refl _ _, dec_start n⟩
  case round =>
    obtain ⟨m, acc, hm, rfl, rfl, hbel, hd⟩ := hrel
    have hlen := dec_len hd hn
    have HW := Lib.hid hbel
    have HD := Lib.hid hd
    have hsz := hbel.size
    clear hbel hd
    have HT1 : Int.tmod (m : Int) 10 = ((m % 10 : Nat) : Int) := by rw [Int.tmod_eq_emod_of_nonneg (by omega)]; rfl
    have HT2 : Int.tdiv (m : Int) 10 = ((m / 10 : Nat) : Int) := by rw [Int.tdiv_eq_ediv_of_nonneg (by omega)]; rfl
    have hd10 : m % 10 < 10 := Nat.mod_lt _ (by omega)
    by_cases hm0 : m = 0
    · subst hm0
      by_cases ha : acc = []
      · subst ha
        have HN := Lib.hid (dec_step HD.out (.inr rfl))
        have hcv := conv_one wr (dg 0) 48 (by decide)
        go_wp2
        refine ⟨⟨0, [dg 0], Nat.zero_le _, rfl, rfl, HW.out.alloc (by have := HB.out; omega) _, ?_⟩, ?_⟩
        · exact HN.out
        · simp [intOf]; decide
      · have HF := Lib.hid (HD.out.2 rfl ha)
        have hne : acc.isEmpty = false := by simpa using ha
        go_wp2
        go_ret
        exact ⟨ret_str (by rw [HF.out]), by rw [HB.out]; exact HW.out⟩
    · have hmb : ((m : Int) != 0) = true := by simp; omega
      have HN := Lib.hid (dec_step HD.out (.inl hm0))
      have hcv := conv_one wr (dg (m % 10)) (48 + (m : Int) % 10) (by rw [digit_toNat hd10]; omega)
      go_wp2
      refine ⟨⟨m / 10, dg (m % 10) :: acc, by omega, by go_num, congrArg Value.string (cons_app _ _), HW.out.alloc (by have := HB.out; omega) _, HN.out⟩, ?_⟩
      rw [cons_app]
      simp [intOf, ByteArray.size]
      omega
end Go.Proofs.YtmmohhaolgblkaaDoor

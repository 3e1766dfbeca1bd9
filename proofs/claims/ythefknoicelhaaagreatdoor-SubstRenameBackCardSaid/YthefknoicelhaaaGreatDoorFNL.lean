/- Rat.IsInt, Num, Den, Sign of package exact; IsInt, Sign, Valid of package number. -/
import Derived.Test.YthefknoicelhaaaGreatDoorFNI
import Derived.Lib.SmallJoins
import Derived.StillTailTactics
import Derived.Lib.AppendIntMem
import Derived.Test.YthefknoicelhaaaGreatDoorFNH
import Derived.Test.YthefknoicelhaaaGreatDoorFNB
import Derived.Lib.AppendStr
import Derived.Deep.CutBlock
import Derived.Deep.DeepCutAuto
import Derived.Deep.RegionHeld3
namespace Go.Proofs.YthefknoicelhaaaGreatDoor
open Go.RowKit Nmx

theorem denI_zero (q : Rat) : decide (denI q = 0) = decide (q.den = 1) := by
  have := q.den_nz
  unfold denI
  by_cases h : q.den = 1
  · rw [if_pos h]; simp [h]
  · rw [if_neg h]; simp [h]; exact this
theorem rv_form {w : World} {v : Value} {q : Rat} (h : RV w v q) : ∃ s1 b1 a1 n1 c1 s2 b2 a2 n2 c2, v = .agg #[.int .i64 s1, .bool b1, .slice a1 n1 c1, .int .i64 s2, .bool b2, .slice a2 n2 c2] ∧ IV w (.agg #[.int .i64 s1, .bool b1, .slice a1 n1 c1]) q.num ∧ IV w (.agg #[.int .i64 s2, .bool b2, .slice a2 n2 c2]) (denI q) := h
section
set_option maxRecDepth 100000
set_option maxHeartbeats 4000000
theorem ratIsInt_any (v : Value) (q : Rat) (w : World) (h : RV w v q) : Calls Tryz.prog 117 #[v] w fun e w' => e = .returned (.bool (decide (q.den = 1))) ∧ Below w.heap.size w w' := by
  obtain ⟨s1, b1, a1, n1, c1, s2, b2, a2, n2, c2, rfl, h1, h2⟩ := rv_form h
  have hz := fun o => isZero_any _ _ _ (h2.alloc_of o)
  rw [denI_zero] at hz
  clear h h1 h2
  go_enter Tryz.func117, Tryz.ntmps117
  go_wp2_with fail
  refine (hz _).mono ?_
  rintro e w1 ⟨rfl, hb1⟩
  go_wp2
  go_ret
  exact ⟨rfl, ((Below.refl _ _).alloc (Nat.le_refl _) _).trans (hb1.mono (by simp))⟩
theorem ratSign_any (v : Value) (q : Rat) (w : World) (h : RV w v q) : Calls Tryz.prog 118 #[v] w fun e w' => e = .returned (.int .i64 (sgnI q.num)) ∧ Below w.heap.size w w' := by
  obtain ⟨s1, b1, a1, n1, c1, s2, b2, a2, n2, c2, rfl, h1, h2⟩ := rv_form h
  have hz := fun o => sign_any _ _ _ (h1.alloc_of o)
  clear h h1 h2
  go_enter Tryz.func118, Tryz.ntmps118
  go_wp2_with fail
  refine (hz _).mono ?_
  rintro e w1 ⟨rfl, hb1⟩
  go_wp2
  go_ret
  exact ⟨rfl, ((Below.refl _ _).alloc (Nat.le_refl _) _).trans (hb1.mono (by simp))⟩

/-- whatever Gcd is asked at the text's two integers, it does what it should -/
def GcdAt (l : List UInt8) : Prop := ∀ n d, canonF (upto l) = some n → canonF (behind l) = some d → 1 < d → GcdOk n d
/-- what the library's and the project's variables hold, as far as texts want it -/
structure Env (w : World) : Prop where
  big : 3 < w.heap.size
  len : ∃ m : Int, w.cell? ⟨3, 0, none⟩ = some (.int .i64 m)
  tab : Lib.TabIs Tryz.prog w "internal/strconv.uint64pow10" .u64 Lib.pow10Tab
theorem Env.far {w w1 : World} (h : Env w) (hb : Below w.heap.size w w1) : Env w1 :=
  ⟨Nat.lt_of_lt_of_le h.big hb.size, let ⟨m, hm⟩ := h.len; ⟨m, (hb.cell (p := ⟨3, 0, none⟩) h.big).trans hm⟩, Go.Joins.tab_stays (g := 0) (by kernel_rfl) h.tab hb (Nat.le_refl _)⟩
theorem parse_env (s : ByteArray) (w : World) (hs : s.size ≤ 1000000) (h : Env w) (hg : GcdAt s.data.toList) : Calls Tryz.prog 116 #[.string s] w (ParsePost s.data.toList w) := by
  obtain ⟨m, hm⟩ := h.len
  exact parse_any m s w hs h.big hm hg

theorem numIsInt_any (s : ByteArray) (w : World) (hs : s.size ≤ 1000000) (h : Env w) (hg : GcdAt s.data.toList) : Calls Tryz.prog 102 #[.string s] w fun e w' => e = .returned (.bool (match ratF s.data.toList with | some q => decide (q.den = 1) | none => false)) ∧ Below w.heap.size w w' := by
  have hp := parse_env s w hs h hg
  cases hq : ratF s.data.toList with
  | none =>
    unfold ParsePost at hp
    rw [hq] at hp
    clear hq
    go_enter Tryz.func102, Tryz.ntmps102
    go_wp2_with fail
    refine hp.mono ?_
    rintro e w1 ⟨v, rfl, hv, hb1⟩
    obtain ⟨s1, b1, a1, n1, c1, s2, b2, a2, n2, c2, rfl, h1, h2⟩ := rv_form hv
    have HB := Lib.hid hb1
    clear hv h1 h2 hp hb1
    go_wp2_with fail
    go_ret
    exact ⟨rfl, HB.out.alloc HB.out.size _⟩
  | some q =>
    unfold ParsePost at hp
    rw [hq] at hp
    clear hq
    go_enter Tryz.func102, Tryz.ntmps102
    go_wp2_with fail
    refine hp.mono ?_
    rintro e w1 ⟨v, rfl, hv, hb1⟩
    have hi := fun o => ratIsInt_any v q (w1.alloc o) (hv.far ((Below.refl _ _).alloc (Nat.le_refl _) _))
    obtain ⟨s1, b1, a1, n1, c1, s2, b2, a2, n2, c2, rfl, h1, h2⟩ := rv_form hv
    have HB := Lib.hid hb1
    clear hv h1 h2 hp hb1
    go_wp2_with fail
    refine (hi _).mono ?_
    rintro e w2 ⟨rfl, hb2⟩
    have HB2 := Lib.hid ((HB.out.alloc HB.out.size _).trans (hb2.mono (by have := HB.out.size; simp; omega)))
    clear hb2 hi
    go_wp2_with fail
    go_ret
    exact ⟨rfl, HB2.out⟩
theorem numSign_any (s : ByteArray) (w : World) (hs : s.size ≤ 1000000) (h : Env w) (hg : GcdAt s.data.toList) : Calls Tryz.prog 104 #[.string s] w fun e w' => e = .returned (.int .i64 (sgnI ((ratF s.data.toList).getD 0).num)) ∧ Below w.heap.size w w' := by
  have hp := parse_env s w hs h hg
  unfold ParsePost at hp
  generalize ratF s.data.toList = oq at *
  go_enter Tryz.func104, Tryz.ntmps104
  go_wp2_with fail
  refine hp.mono ?_
  rintro e w1 ⟨v, rfl, hv, hb1⟩
  have hi := fun o => ratSign_any v _ (w1.alloc o) (hv.far ((Below.refl _ _).alloc (Nat.le_refl _) _))
  obtain ⟨s1, b1, a1, n1, c1, s2, b2, a2, n2, c2, rfl, h1, h2⟩ := rv_form hv
  have HB := Lib.hid hb1
  clear hv h1 h2 hp hb1
  go_wp2_with fail
  refine (hi _).mono ?_
  rintro e w2 ⟨rfl, hb2⟩
  have HB2 := Lib.hid ((HB.out.alloc HB.out.size _).trans (hb2.mono (by have := HB.out.size; simp; omega)))
  clear hb2 hi
  go_wp2_with fail
  go_ret
  exact ⟨rfl, HB2.out⟩
end
end Go.Proofs.YthefknoicelhaaaGreatDoor
namespace Go.Proofs.YthefknoicelhaaaGreatDoor
open Go.RowKit Nmx

theorem RV.heap_same {w w' : World} {v : Value} {q : Rat} (h : RV w v q) {R : Nat} {cs : Array Value} {t : TypeId} {fr : Nat × Nat} (hR : w.heap[R]? = some (.cells cs t fr)) (ht : t ≠ 158) (ho : ∀ k, k ≠ R → w'.heap[k]? = w.heap[k]?) : RV w' v q :=
  let ⟨s1, b1, a1, n1, c1, s2, b2, a2, n2, c2, e, h1, h2⟩ := h
  ⟨s1, b1, a1, n1, c1, s2, b2, a2, n2, c2, e, h1.heap_same hR ht ho, h2.heap_same hR ht ho⟩

end Go.Proofs.YthefknoicelhaaaGreatDoor
namespace Go.Proofs.YthefknoicelhaaaGreatDoor
open Go.RowKit Nmx

end Go.Proofs.YthefknoicelhaaaGreatDoor
namespace Go.Proofs.YthefknoicelhaaaGreatDoor
open Go.RowKit Nmx

end Go.Proofs.YthefknoicelhaaaGreatDoor
namespace Go.Proofs.YthefknoicelhaaaGreatDoor
open Go.RowKit Nmx

end Go.Proofs.YthefknoicelhaaaGreatDoor
namespace Go.Proofs.YthefknoicelhaaaGreatDoor
open Go.RowKit Nmx

end Go.Proofs.YthefknoicelhaaaGreatDoor
/- The reference's FromInt, at every int. -/
namespace Go.Proofs.YthefknoicelhaaaGreatDoor
open Go.RowKit Nmx

/-- where the loop stands -/
def DecRel (n m : Nat) (acc : List UInt8) : Prop := (m ≠ 0 ∨ acc = [] → decN m ++ acc = decN n) ∧ (m = 0 → acc ≠ [] → acc = decN n)
theorem dec_start (n : Nat) : DecRel n n [] := ⟨fun _ => by simp, fun _ h => absurd rfl h⟩
theorem dec_step {n m : Nat} {acc : List UInt8} (h : DecRel n m acc) (hm : m ≠ 0 ∨ acc = []) : DecRel n (m / 10) (dg (m % 10) :: acc) := by
  have h1 := h.1 hm
  refine ⟨fun h2 => ?_, fun h2 _ => ?_⟩
  · have : m / 10 ≠ 0 := by rcases h2 with h2 | h2; exact h2; cases h2
    rw [← h1, decN_big (n := m) (by omega)]; simp
  · have h10 : m < 10 := by omega
    rw [← h1, decN_small h10, Nat.mod_eq_of_lt h10]; rfl
theorem dec_len {n m : Nat} {acc : List UInt8} (h : DecRel n m acc) (hn : n ≤ 9223372036854775808) : acc.length ≤ 19 := by
  have := decN_len_le (n := n) (k := 19) (by omega) (by omega)
  by_cases hm : m ≠ 0 ∨ acc = []
  · have := congrArg List.length (h.1 hm); rw [List.length_append] at this; omega
  · have := h.2 (by omega) (by simp at hm; exact hm.2); rw [this]; omega
theorem conv_one (w : World) (c : UInt8) (k : Int) (hk : k = c.toNat) : Sem.run Tryz.prog (convert 73 9 (Value.slice (some { block := w.heap.size, off := 0 }) 1 1)) (w.alloc (.cells #[.int .u8 k] 5)) = .ok (.string ⟨#[c]⟩) (w.alloc (.cells #[.int .u8 k] 5)) := by
  subst hk
  refine run_convert_bytes_back (P := Tryz.prog) _ 73 9 5 ⟨w.heap.size, 0, none⟩ 1 [c] Tryz.underlying73 Tryz.underlying5 Tryz.underlying9 ?_
  intro j hj
  simp at hj
  subst hj
  exact (World.news_of_block (cs := #[.int .u8 (c.toNat : Int)]) (t := 5) (fr := (0, 0)) (heap_alloc_new w _)) 0 _ (by simp)
theorem cons_app (c : UInt8) (acc : List UInt8) : (⟨#[c]⟩ : ByteArray) ++ ⟨acc.toArray⟩ = ⟨(c :: acc).toArray⟩ := by
  apply ByteArray.ext
  rw [ByteArray.data_append]
  apply Array.toList_inj.1
  simp
section
set_option maxRecDepth 100000
set_option maxHeartbeats 4000000
theorem refFromInt_pos (n : Nat) (w : World) (hn : n ≤ 9223372036854775807) :
    Calls Tryz.prog 16 #[.int .i64 ((n : Int))] w fun e w' => e = .returned (.string ⟨(decI ((n : Int))).toArray⟩) ∧ Below w.heap.size w w' := by
  have HS : Hid (decI ((n : Int)) = decN n) := Lib.hid (decI_nat n)
  go_enter Tryz.func16, Tryz.ntmps16
  go_wp2
  generalize hb : w.heap.size = b at *
  have HB := Lib.hid hb
  clear hb
  go_loopw [3, 4] (fun sv v wr => ∃ (m : Nat) (acc : List UInt8), m ≤ n ∧ v = .int .i64 ((m : Int)) ∧ sv = .string ⟨acc.toArray⟩ ∧ Below b w wr ∧ DecRel n m acc)
    (fun sv v _ => (intOf v).natAbs + (match sv with | .string t => if t.size = 0 then 1 else 0 | _ => 0))
  case atStart => exact ⟨n, [], Nat.le_refl _, rfl, rfl, Below.refl _ _, dec_start n⟩
  case round =>
    obtain ⟨m, acc, hm, rfl, rfl, hbel, hd⟩ := hrel
    have hlen := dec_len hd (by omega)
    have HW := Lib.hid hbel
    have HD := Lib.hid hd
    have hsz := hbel.size
    clear hbel hd
    have HT1 : Int.tmod ((m : Int)) 10 = ((m % 10 : Nat) : Int) := by rw [Int.tmod_eq_emod_of_nonneg (by omega)]; rfl
    have HT2 : Int.tdiv ((m : Int)) 10 = ((m / 10 : Nat) : Int) := by rw [Int.tdiv_eq_ediv_of_nonneg (by omega)]; rfl
    have hd10 : m % 10 < 10 := Nat.mod_lt _ (by omega)
    by_cases hm0 : m = 0
    · subst hm0
      by_cases ha : acc = []
      · subst ha
        have HN := Lib.hid (dec_step HD.out (.inr rfl))
        have hcv := conv_one wr (dg 0) 48 (by decide)
        go_wp2
        refine ⟨⟨0, [dg 0], Nat.zero_le _, rfl, rfl, HW.out.alloc (by have := HB.out; omega) _, ?_⟩, ?_⟩
        · exact HN.out
        · simp [intOf]; decide
      · have HF := Lib.hid (HD.out.2 rfl ha)
        have hne : acc.isEmpty = false := by simpa using ha
        go_wp2
        go_ret
        exact ⟨ret_str (by rw [HS.out, HF.out]), by rw [HB.out]; exact HW.out⟩
    · have hmb : (((m : Int)) != 0) = true := by simp; omega
      have HN := Lib.hid (dec_step HD.out (.inl hm0))
      obtain ⟨r, hr⟩ : ∃ r, m % 10 = r := ⟨_, rfl⟩
      obtain ⟨q, hq⟩ : ∃ q, m / 10 = q := ⟨_, rfl⟩
      have hqm : q ≤ m := by omega
      have hql : q < m := by omega
      rw [hr] at HT1 hd10
      rw [hq] at HT2
      rw [hr, hq] at HN
      have hcv := conv_one wr (dg r) (48 + (r : Int)) (by rw [dg_toNat hd10]; omega)
      have hmr : (m : Int) % 10 = (r : Int) := by omega
      have hmq : (m : Int) / 10 = (q : Int) := by omega
      clear hr hq
      go_wp2
      refine ⟨⟨q, dg r :: acc, by omega, by go_num, congrArg Value.string (cons_app _ _), HW.out.alloc (by have := HB.out; omega) _, HN.out⟩, ?_⟩
      rw [cons_app]
      simp [intOf, ByteArray.size]
      omega
theorem refFromInt_neg (n : Nat) (w : World) (hn : n ≤ 9223372036854775808) (hp : 0 < n) :
    Calls Tryz.prog 16 #[.int .i64 (-(n : Int))] w fun e w' => e = .returned (.string ⟨(decI (-(n : Int))).toArray⟩) ∧ Below w.heap.size w w' := by
  have HS : Hid (decI (-(n : Int)) = 45 :: decN n) := Lib.hid (decI_neg n hp)
  have hlt : -(n : Int) < 0 := by omega
  go_enter Tryz.func16, Tryz.ntmps16
  go_wp2
  generalize hb : w.heap.size = b at *
  have HB := Lib.hid hb
  clear hb
  go_loopw [3, 4] (fun sv v wr => ∃ (m : Nat) (acc : List UInt8), m ≤ n ∧ v = .int .i64 (-(m : Int)) ∧ sv = .string ⟨acc.toArray⟩ ∧ Below b w wr ∧ DecRel n m acc)
    (fun sv v _ => (intOf v).natAbs + (match sv with | .string t => if t.size = 0 then 1 else 0 | _ => 0))
  case atStart => exact ⟨n, [], Nat.le_refl _, rfl, rfl, Below.refl _ _, dec_start n⟩
  case round =>
    obtain ⟨m, acc, hm, rfl, rfl, hbel, hd⟩ := hrel
    have hlen := dec_len hd (by omega)
    have HW := Lib.hid hbel
    have HD := Lib.hid hd
    have hsz := hbel.size
    clear hbel hd
    have HT1 : Int.tmod (-(m : Int)) 10 = -((m % 10 : Nat) : Int) := by rw [Int.neg_tmod, Int.tmod_eq_emod_of_nonneg (by omega)]; rfl
    have HT2 : Int.tdiv (-(m : Int)) 10 = -((m / 10 : Nat) : Int) := by rw [Int.neg_tdiv, Int.tdiv_eq_ediv_of_nonneg (by omega)]; rfl
    have hd10 : m % 10 < 10 := Nat.mod_lt _ (by omega)
    by_cases hm0 : m = 0
    · subst hm0
      by_cases ha : acc = []
      · subst ha
        have HN := Lib.hid (dec_step HD.out (.inr rfl))
        have hcv := conv_one wr (dg 0) 48 (by decide)
        exfalso
        have h1 := HD.out.1 (.inr rfl)
        rw [List.append_nil] at h1
        have := decN_inj h1
        omega
      · have HF := Lib.hid (HD.out.2 rfl ha)
        have hne : acc.isEmpty = false := by simpa using ha
        go_wp2
        go_ret
        exact ⟨ret_str (by rw [HS.out, HF.out]; exact cons_app 45 (decN n)), by rw [HB.out]; exact HW.out⟩
    · have hmb : ((-(m : Int)) != 0) = true := by simp; omega
      have HN := Lib.hid (dec_step HD.out (.inl hm0))
      obtain ⟨r, hr⟩ : ∃ r, m % 10 = r := ⟨_, rfl⟩
      obtain ⟨q, hq⟩ : ∃ q, m / 10 = q := ⟨_, rfl⟩
      have hqm : q ≤ m := by omega
      have hql : q < m := by omega
      rw [hr] at HT1 hd10
      rw [hq] at HT2
      rw [hr, hq] at HN
      have hcv := conv_one wr (dg r) (48 + (r : Int)) (by rw [dg_toNat hd10]; omega)
      have hmr : (m : Int) % 10 = (r : Int) := by omega
      have hmq : (m : Int) / 10 = (q : Int) := by omega
      clear hr hq
      by_cases hr0 : r = 0
      · subst hr0
        have hcv0 := conv_one wr (dg 0) 48 (by decide)
        go_wp2
        refine ⟨⟨q, dg 0 :: acc, by omega, rfl, congrArg Value.string (cons_app _ _), HW.out.alloc (by have := HB.out; omega) _, HN.out⟩, ?_⟩
        rw [cons_app]
        simp [intOf, ByteArray.size]
        omega
      · have hrn : -(r : Int) < 0 := by omega
        go_wp2
        refine ⟨⟨q, dg r :: acc, by omega, rfl, congrArg Value.string (cons_app _ _), HW.out.alloc (by have := HB.out; omega) _, HN.out⟩, ?_⟩
        rw [cons_app]
        simp [intOf, ByteArray.size]
        omega
theorem refFromInt_any (z : Int) (w : World) (h1 : -9223372036854775808 ≤ z) (h2 : z ≤ 9223372036854775807) :
    Calls Tryz.prog 16 #[.int .i64 z] w fun e w' => e = .returned (.string ⟨(decI z).toArray⟩) ∧ Below w.heap.size w w' := by
  by_cases hz : z < 0
  · have := refFromInt_neg z.natAbs w (by omega) (by omega)
    rw [show -(z.natAbs : Int) = z by omega] at this
    exact this
  · have := refFromInt_pos z.natAbs w (by omega)
    rw [show (z.natAbs : Int) = z by omega] at this
    exact this
end
end Go.Proofs.YthefknoicelhaaaGreatDoor
namespace Nmx

/-- the chunks c have come off N, the words l are left -/
structure ChR (N : Nat) (l c : List Nat) : Prop where
  nl : Norm l
  lt : ∀ x ∈ c, x < 1000000000
  val : chunksV c + 1000000000 ^ c.length * wv l = N
  last : l = [] → c ≠ [] ∧ c.getLastD 0 ≠ 0
theorem ChR.start {l : List Nat} (h : Norm l) (h0 : l ≠ []) : ChR (wv l) l [] :=
  ⟨h, fun x hx => absurd hx (by simp), by simp [chunksV], fun e => absurd e h0⟩
theorem wv_pos_of {l : List Nat} (h : Norm l) (h0 : l ≠ []) : 0 < wv l := by
  rcases Nat.eq_zero_or_pos (wv l) with h1 | h1
  · exact absurd (norm_zero l h h1) h0
  · exact h1
theorem ChR.step {N : Nat} {l c q : List Nat} {r : Nat} (h : ChR N l c) (h0 : l ≠ []) (hq : wv q = wv l / 1000000000) (hr : r = wv l % 1000000000) (hw : Ws q) : ChR N (trimW q) (c ++ [r]) := by
  have hp := wv_pos_of h.nl h0
  have hd := Nat.mod_add_div (wv l) 1000000000
  constructor
  · exact trimW_norm q hw
  · intro x hx
    rw [List.mem_append, List.mem_singleton] at hx
    rcases hx with hx | hx
    · exact h.lt x hx
    · rw [hx, hr]; exact Nat.mod_lt _ (by omega)
  · rw [chunksV_snoc, trimW_wv, hq, List.length_append, List.length_singleton, Nat.pow_succ, Nat.mul_assoc, hr, Nat.add_assoc, ← Nat.mul_add, hd]
    exact h.val
  · intro e
    have : wv q = 0 := by rw [← trimW_wv, e]; rfl
    refine ⟨by simp, ?_⟩
    simp
    omega
theorem ChR.few {N : Nat} {l c : List Nat} (h : ChR N l c) (h0 : l ≠ []) {L : Nat} (hN : N < BB ^ L) : c.length < 32 * L := by
  have hp := wv_pos_of h.nl h0
  have h1 := h.val
  have h2 : 1000000000 ^ c.length * 1 ≤ 1000000000 ^ c.length * wv l := Nat.mul_le_mul_left _ hp
  have h3 : 2 ^ c.length ≤ 1000000000 ^ c.length := Nat.pow_le_pow_left (by omega) _
  have h4 : BB ^ L = 2 ^ (32 * L) := by rw [BB_eq, Nat.pow_mul]
  rw [h4] at hN
  exact (Nat.pow_lt_pow_iff_right (by omega : 1 < 2)).1 (by omega)
theorem ChR.done {N : Nat} {c : List Nat} (h : ChR N [] c) : chunksT c = decN N ∧ c ≠ [] := by
  obtain ⟨h1, h2⟩ := h.last rfl
  have h3 := h.val
  rw [wv_nil, Nat.mul_zero, Nat.add_zero] at h3
  rw [← h3]
  exact ⟨(chunksT_eq c h1 h.lt h2).1, h1⟩
end Nmx
namespace Go.Proofs.YthefknoicelhaaaGreatDoor
open Go.RowKit Nmx

theorem own_below {w w1 : World} {b : Nat} {t : TypeId} {sz : Nat} {v : Value} {n : Nat} {xs : List Value} (h : w.ownsRow b t sz v n xs) {B : Nat} (hb : Below B w w1) (hB : w.heap.size ≤ B) : w1.ownsRow b t sz v n xs := by
  obtain ⟨hx, h | ⟨g, cap, cur, hv, hg, hh, r⟩⟩ := h
  · exact ⟨hx, .inl h⟩
  · exact ⟨hx, .inr ⟨g, cap, cur, hv, hg, (hb.block g (by have := lt_of_heap hh; omega)).trans hh, r⟩⟩
theorem WS.news {w : World} {g off cap : Nat} {l : List Nat} (h : WS w (some ⟨g, off, none⟩) g off cap l) : ∀ j u, (u32s l)[j]? = some u → w.cell? ((⟨g, off, none⟩ : Addr).add j) = some u := by
  intro j u hu
  have hj : j < l.length := by have := (List.getElem?_eq_some_iff.1 hu).1; rwa [u32s_len] at this
  rw [u32s_at l j hj] at hu
  cases hu
  rw [Addr.add_lit]
  exact h.at_ j hj
theorem u32s_one (l : List Nat) : ∀ u ∈ u32s l, u.oneCell' = true := by
  intro u hu
  simp only [u32s, List.mem_map] at hu
  obtain ⟨n, _, rfl⟩ := hu
  rfl
/-- bytes as cells -/
def bcs (l : List UInt8) : List Value := l.map fun b => Value.int .u8 (b.toNat : Int)
theorem infoU8 : (Tryz.prog.info? 5).map (fun i => (i.zero, i.size, i.bytes)) = some (some (.int .u8 0), 1, 1) := by kernel_rfl
theorem sz_txt (l : List UInt8) : (⟨l.toArray⟩ : ByteArray).size = l.length := by simp [ByteArray.size]

end Go.Proofs.YthefknoicelhaaaGreatDoor
namespace Go.Proofs.YthefknoicelhaaaGreatDoor
open Go.RowKit Nmx

end Go.Proofs.YthefknoicelhaaaGreatDoor
/- Rat.Add of package exact. -/
namespace Go.Proofs.YthefknoicelhaaaGreatDoor
open Go.RowKit Nmx


theorem bb_le {k l : Nat} (h : k ≤ l) : BB ^ k ≤ BB ^ l := Nat.pow_le_pow_right BB_pos h
theorem fit_of {z : Int} {k : Nat} (h : z.natAbs < BB ^ k) (hk : k ≤ 1000) : Fit z := by
  obtain ⟨m, hm⟩ : ∃ m, k + m = 1000 := ⟨1000 - k, by omega⟩
  unfold Fit
  rw [← hm]
  exact Nat.lt_of_lt_of_le h (bb_le (Nat.le_add_right _ _))
end Go.Proofs.YthefknoicelhaaaGreatDoor
namespace Go.Proofs.YthefknoicelhaaaGreatDoor
open Go.RowKit Nmx

end Go.Proofs.YthefknoicelhaaaGreatDoor
namespace Go.Proofs.YthefknoicelhaaaGreatDoor
open Go.RowKit Nmx

section
set_option maxRecDepth 100000
set_option maxHeartbeats 4000000
theorem numValid_any (s : ByteArray) (w : World) (hs : s.size ≤ 1000000) (h : Env w) (hg : GcdAt s.data.toList) : Calls Tryz.prog 101 #[.string s] w fun e w' => e = .returned (.bool (ratF s.data.toList).isSome) ∧ Below w.heap.size w w' := by
  have hp := parse_env s w hs h hg
  unfold ParsePost at hp
  generalize ratF s.data.toList = oq at *
  go_enter Tryz.func101, Tryz.ntmps101
  go_wp2_with fail
  refine hp.mono ?_
  rintro e w1 ⟨v, rfl, hv, hb1⟩
  obtain ⟨s1, b1, a1, n1, c1, s2, b2, a2, n2, c2, rfl, -, -⟩ := rv_form hv
  have HB := Lib.hid hb1
  clear hv hp hb1
  go_wp2
  go_ret
  exact ⟨rfl, HB.out.alloc HB.out.size _⟩
end
end Go.Proofs.YthefknoicelhaaaGreatDoor
namespace Go.Proofs.YthefknoicelhaaaGreatDoor
open Go.RowKit Nmx

end Go.Proofs.YthefknoicelhaaaGreatDoor
namespace Go.Proofs.YthefknoicelhaaaGreatDoor
open Go.RowKit Nmx

end Go.Proofs.YthefknoicelhaaaGreatDoor
namespace Go.Proofs.YthefknoicelhaaaGreatDoor
open Go.RowKit Nmx

end Go.Proofs.YthefknoicelhaaaGreatDoor

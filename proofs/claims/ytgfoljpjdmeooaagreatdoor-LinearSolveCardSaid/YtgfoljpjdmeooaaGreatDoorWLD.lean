/- Linear expressions: numbers by Must and One, the test on 0, the order of names. -/
import Derived.Test.YtgfoljpjdmeooaaGreatDoorWLA
import Derived.Test.YtgfoljpjdmeooaaGreatDoorWNT
namespace Nmx
theorem DS.one {d : Nat} (h : 0 < d) : DS d 1 := DS.int (z := 1) (Nat.one_lt_pow (by omega) (by omega))
end Nmx
namespace Go.Proofs.YtgfoljpjdmeooaaGreatDoor
open Go.RowKit Nmx
open Go.Lib (compareBytes)

section
set_option maxRecDepth 100000
set_option maxHeartbeats 4000000
theorem mustT {d : Nat} {q : Rat} (hq : DS d q) (hd : d ≤ 3000) (W : World) (h : Env W) : Calls Tryz.prog 43 #[.string (TX q)] W (GetsQ q W) := by
  have hb0 : Below W.heap.size W (W.alloc (.cells #[.int .i64 0, .bool false, .slice none 0 0, .int .i64 0, .bool false, .slice none 0 0] 72)) := (Below.refl _ _).alloc (Nat.le_refl _) _;have hpa := parseT hq hd _ (h.far hb0);have HB0 := Lib.hid hb0;have HR0 := Lib.hid (heap_alloc_new W (.cells #[.int .i64 0, .bool false, .slice none 0 0, .int .i64 0, .bool false, .slice none 0 0] 72));clear h hq hb0;generalize TX q = tq at *
  go_enter Tryz.func43, Tryz.ntmps43
  go_wp2_with fail
  refine hpa.mono ?_;rintro e w1 ⟨v1, rfl, hv1, hb1⟩;have hsz := hb1.size;obtain ⟨s1, b1, a1, n1, c1, s2, b2, a2, n2, c2, rfl, i1, i2⟩ := rv_form hv1;have hal : Below w1.heap.size w1 (w1.alloc (.cells #[.int .i64 s1, .bool b1, .slice a1 n1 c1, .int .i64 s2, .bool b2, .slice a2 n2 c2] 72)) := (Below.refl _ _).alloc (Nat.le_refl _) _;have hR := (hal.block _ (lt_of_heap ((hb1.block _ (lt_of_heap HR0.out)).trans HR0.out))).trans ((hb1.block _ (lt_of_heap HR0.out)).trans HR0.out);have HR := Lib.hid hR;have HI1 := Lib.hid (i1.far hal);have HI2 := Lib.hid (i2.far hal);have HB := Lib.hid ((HB0.out.trans (hb1.mono HB0.out.size)).alloc (by have := HB0.out.size; omega) (.cells #[.int .i64 s1, .bool b1, .slice a1 n1 c1, .int .i64 s2, .bool b2, .slice a2 n2 c2] 72));have r0 := heap_cell hR 0;have r1 := heap_cell hR 1;have r2 := heap_cell hR 2;have r3 := heap_cell hR 3;have r4 := heap_cell hR 4;have r5 := heap_cell hR 5;have fr := fun i => heap_fz hR i
  have hlt : W.heap.size < w1.heap.size := by simp at hsz; omega
  have HN := Lib.hid (heap_alloc_new w1 (.cells #[.int .i64 s1, .bool b1, .slice a1 n1 c1, .int .i64 s2, .bool b2, .slice a2 n2 c2] 72));clear hv1 hb1 hpa i1 i2 hal hR hsz r0 r1 r2 r3 r4 r5 fr
  go_upto_region 2 with fail
  generalize w1.alloc (.cells #[.int .i64 s1, .bool b1, .slice a1 n1 c1, .int .i64 s2, .bool b2, .slice a2 n2 c2] 72) = w2 at *;generalize w1.heap.size = R at *;have r0 := heap_cell HR.out 0;have r1 := heap_cell HR.out 1;have r2 := heap_cell HR.out 2;have r3 := heap_cell HR.out 3;have r4 := heap_cell HR.out 4;have r5 := heap_cell HR.out 5;have fr := fun i => heap_fz HR.out i
  have k0 := heap_cell HN.out 0;have k1 := heap_cell HN.out 1;have k2 := heap_cell HN.out 2;have k3 := heap_cell HN.out 3;have k4 := heap_cell HN.out 4;have k5 := heap_cell HN.out 5
  go_wp2
  exact end_rat Tryz.results43 rfl rfl HR.out HI1.out HI2.out HB.out (Nat.le_refl _)
theorem ratIsZero_any (v : Value) (q : Rat) (w : World) (hv : RV w v q) : Calls Tryz.prog 71 #[v] w fun e w' => e = .returned (.bool (decide (q.num = 0))) ∧ Below w.heap.size w w' := by
  obtain ⟨s1, b1, a1, n1, c1, s2, b2, a2, n2, c2, rfl, i1, i2⟩ := rv_form hv;have hal : Below w.heap.size w (w.alloc (.cells #[.int .i64 s1, .bool b1, .slice a1 n1 c1, .int .i64 s2, .bool b2, .slice a2 n2 c2] 72)) := (Below.refl _ _).alloc (Nat.le_refl _) _;have hz := isZero_any _ q.num _ (i1.far hal);have HB := Lib.hid hal;obtain ⟨z, hqz⟩ : ∃ z, q.num = z := ⟨_, rfl⟩
  rw [hqz] at hz ⊢;clear hv i1 i2 hal hqz
  go_enter Tryz.func71, Tryz.ntmps71
  go_wp2_with fail
  refine hz.mono ?_;rintro e w1 ⟨rfl, hb1⟩;have HB1 := Lib.hid (HB.out.trans (hb1.mono HB.out.size));clear hb1 hz
  go_wp2
  go_ret
  exact ⟨rfl, HB1.out⟩
theorem cmpStr_any (a b : ByteArray) (w : World) : Calls Tryz.prog 116 #[.string a, .string b] w fun e w' => e = .returned (.int .i64 (compareBytes a.data.toList b.data.toList)) ∧ w' = w := by
  go_enter Tryz.func116, Tryz.ntmps116
  go_wp2
  rw [run_callFunc_extern Tryz.func140 (by kernel_rfl) (by kernel_rfl) (by kernel_rfl) (e := Extern.BytealgCompare.compare) (by kernel_rfl), Lib.run_compareString];simp only [Result.andThen];rw [Oper.upon_value]
  go_wp2
  go_ret
  exact ⟨rfl, rfl⟩
theorem strCmp_any (a b : ByteArray) (w : World) : Calls Tryz.prog 78 #[.string a, .string b] w fun e w' => e = .returned (.int .i64 (compareBytes a.data.toList b.data.toList)) ∧ w' = w := by
  have hc := cmpStr_any a b w
  go_enter Tryz.func78, Tryz.ntmps78
  go_wp2_with fail
  refine hc.mono ?_;rintro e w1 ⟨rfl, hw⟩;obtain rfl := hw.symm
  go_wp2
  go_ret
  exact ⟨rfl, rfl⟩
theorem isNumeric_any (s : Int) (w : World) (hs : s = 2 ∨ s = 3) : Calls Tryz.prog 57 #[.int .i64 s] w fun e w' => e = .returned (.bool true) ∧ w' = w := by
  rcases hs with rfl | rfl
  · go_enter Tryz.func57, Tryz.ntmps57
    go_wp2
    go_ret
    exact ⟨rfl, rfl⟩
  · go_enter Tryz.func57, Tryz.ntmps57
    go_wp2
    go_ret
    exact ⟨rfl, rfl⟩
end
end Go.Proofs.YtgfoljpjdmeooaaGreatDoor
/- Linear expressions in memory. -/
namespace Go.Proofs.YtgfoljpjdmeooaaGreatDoor
open Go.RowKit Nmx
open Go.Lib (compareBytes)

/-- a slice of coefficients -/
structure CSl (w : World) (ao : Option Addr) (g off cap : Nat) (cs : List (List UInt8 × Rat)) : Prop where
  le : cs.length ≤ cap
  most : cap ≤ 9223372036854775807
  ad : 0 < cap → ao = some ⟨g, off, none⟩
  nm : ∀ i (h : i < cs.length), w.cell? ⟨g, off + i * 2, none⟩ = some (.string ⟨cs[i].1.toArray⟩)
  nu : ∀ i (h : i < cs.length), w.cell? ⟨g, off + i * 2 + 1, none⟩ = some (.string (TX cs[i].2))
theorem CSl.far {w w' : World} {ao : Option Addr} {g off cap : Nat} {cs : List (List UInt8 × Rat)} (h : CSl w ao g off cap cs) (hb : Below w.heap.size w w') : CSl w' ao g off cap cs :=
  ⟨h.le, h.most, h.ad, fun i hi => (hb.cell (World.block_lt_of_cell? _ _ (h.nm i hi))).trans (h.nm i hi), fun i hi => (hb.cell (World.block_lt_of_cell? _ _ (h.nu i hi))).trans (h.nu i hi)⟩
theorem less_of : ∀ a b : List UInt8, ltB a b → Op.bytesLess a b = true
  | [], [], h => by unfold ltB compareBytes at h; cases h
  | _ :: _, [], h => by unfold ltB compareBytes at h; cases h
  | [], _ :: _, _ => rfl
  | x :: a, y :: b, h => by
    unfold Op.bytesLess;unfold ltB compareBytes at h
    by_cases h1 : x < y
    · simp [h1]
    · rw [if_neg h1] at h
      by_cases h2 : y < x
      · rw [if_pos h2] at h; cases h
      · rw [if_neg h2] at h;have hxy : x = y := UInt8.le_antisymm (UInt8.not_lt.1 h2) (UInt8.not_lt.1 h1);have := less_of a b h
        simp [hxy, this]
theorem less_ba {a b : List UInt8} (h : ltB a b) : Op.bytesLess (⟨a.toArray⟩ : ByteArray).toList (⟨b.toArray⟩ : ByteArray).toList = true := by
  rw [ByteArray.toList_eq, ByteArray.toList_eq]; exact less_of a b h
theorem can_at {l : List (List UInt8 × Rat)} (h : Can ltB l) : ∀ i (hi : i + 1 < l.length), ltB l[i].1 l[i + 1].1 := by
  induction l with
  | nil => intro i hi; exact absurd hi (by simp)
  | cons x l ih =>
    obtain ⟨n, p⟩ := x;intro i hi;cases i with
    | zero => exact h.2.1 _ (List.getElem_mem _)
    | succ i => exact ih h.2.2 i (by rw [List.length_cons] at hi; omega)
theorem can_nz {l : List (List UInt8 × Rat)} (h : Can ltB l) : ∀ x ∈ l, x.2 ≠ 0 := by
  induction l with
  | nil => exact fun x hx => (List.not_mem_nil hx).elim
  | cons y l ih =>
    intro x hx;rcases List.mem_cons.1 hx with h1 | h1
    · rw [h1]; exact h.1
    · exact ih h.2.2 x h1
/-- the names of the drawn expressions -/
def nm4 : List (List UInt8) := [[117], [118], [120], [121]]
section
set_option maxRecDepth 100000
set_option maxHeartbeats 4000000
theorem isName_4 (c : UInt8) (hc : c = 117 ∨ c = 118 ∨ c = 120 ∨ c = 121) (w : World) : Calls Tryz.prog 56 #[.string ⟨#[c]⟩] w fun e w' => e = .returned (.bool true) ∧ w' = w := by
  rcases hc with rfl | rfl | rfl | rfl
  all_goals
    go_enter Tryz.func56, Tryz.ntmps56
    go_wp2
    go_loop [3] (fun i => i = .int .i64 0 ∨ i = .int .i64 1) (fun i => 1 - (intOf i).toNat)
    case atStart => exact .inl rfl
    case round =>
      rcases hrel with rfl | rfl
      · go_wp2
        exact Nat.lt_of_lt_of_le (show (1 - (intOf (.int .i64 1)).toNat) < 1 from by decide) (by decide)
      · go_wp2
        go_ret
        exact ⟨rfl, rfl⟩
theorem isName_nm (l : List UInt8) (h : l ∈ nm4) (w : World) : Calls Tryz.prog 56 #[.string ⟨l.toArray⟩] w fun e w' => e = .returned (.bool true) ∧ w' = w := by
  simp only [nm4, List.mem_cons, List.not_mem_nil, or_false] at h;rcases h with rfl | rfl | rfl | rfl
  · exact isName_4 117 (.inl rfl) w
  · exact isName_4 118 (.inr (.inl rfl)) w
  · exact isName_4 120 (.inr (.inr (.inl rfl))) w
  · exact isName_4 121 (.inr (.inr (.inr rfl))) w
theorem numValidE {d : Nat} {q : Rat} (hq : DS d q) (hd : d ≤ 3000) (W : World) (h : Env W) : Calls Tryz.prog 41 #[.string (TX q)] W fun e w' => e = .returned (.bool true) ∧ Below W.heap.size W w' := by
  have hs := DS.sz hq;have hc := numValid_any (TX q) W (by omega) h (gcdAt_any (by rw [size_data]; omega));rw [tx_ratF] at hc;exact hc
/-- coefficients of drawn expressions -/
structure Good (d : Nat) (cs : List (List UInt8 × Rat)) : Prop where
  can : Can ltB cs
  nm : ∀ x ∈ cs, x.1 ∈ nm4
  ds : ∀ x ∈ cs, DS d x.2
end
end Go.Proofs.YtgfoljpjdmeooaaGreatDoor
/- Linear expressions that are equal. -/
namespace Go.Proofs.YtgfoljpjdmeooaaGreatDoor
open Go.RowKit Nmx

section
set_option maxRecDepth 100000
set_option maxHeartbeats 4000000
theorem same_ok (w : World) (s : Int) (cs : List (List UInt8 × Rat)) (tc : ByteArray) (a1 : Option Addr) (g1 o1 c1 : Nat) (a2 : Option Addr) (g2 o2 c2 : Nat) (h1 : CSl w a1 g1 o1 c1 cs) (h2 : CSl w a2 g2 o2 c2 cs) :
    Calls Tryz.prog 15 #[.agg #[.int .i64 s, .slice a1 cs.length c1, .string tc], .agg #[.int .i64 s, .slice a2 cs.length c2, .string tc]] w fun e w' => e = .returned (.bool true) ∧ Below w.heap.size w w' := by
  have hle1 := h1.le;have hmost1 := h1.most;have hle2 := h2.le;have hmost2 := h2.most;have hb0 : Below w.heap.size w ((w.alloc (.cells #[.int .i64 s, .slice a1 cs.length c1, .string tc] 26)).alloc (.cells #[.int .i64 s, .slice a2 cs.length c2, .string tc] 26)) := below2 w _ _;have HB0 := Lib.hid hb0;have H1 := Lib.hid (h1.far hb0);have H2 := Lib.hid (h2.far hb0);obtain ⟨n, hn⟩ : ∃ n, cs.length = n := ⟨_, rfl⟩
  have HN := Lib.hid hn;rw [hn] at hle1 hle2 HB0 H1 H2 ⊢;clear h1 h2 hn hb0
  go_enter Tryz.func15, Tryz.ntmps15
  go_wp2_with fail
  go_loopg [5] n (fun gh iv wr => ∃ k nd : Nat, gh = n - k ∧ k ≤ n ∧ iv = .int .i64 k ∧ wr = ((w.alloc (.cells #[.int .i64 s, .slice a1 n c1, .string tc] 26)).alloc (.cells #[.int .i64 s, .slice a2 n c2, .string tc] 26)).drewN nd)
  case atStart => exact ⟨0, 0, rfl, Nat.zero_le _, rfl, rfl⟩
  case round =>
    obtain ⟨k, nd, rfl, hk, rfl, rfl⟩ := hrel
    by_cases hlt : k < n
    · have had1 := H1.out.ad (by omega);subst had1;have had2 := H2.out.ad (by omega);subst had2;have hlt' : k < cs.length := by rw [HN.out]; exact hlt
      have p0 := H1.out.nm k hlt';have p1 := H1.out.nu k hlt';have q0 := H2.out.nm k hlt';have q1 := H2.out.nu k hlt';generalize (⟨cs[k].1.toArray⟩ : ByteArray) = t0 at *;generalize TX cs[k].2 = t1 at *;have e1 : (0 : Int) ≤ (k : Int) := by omega
      have e2 : (k : Int) < (n : Int) := by omega
      go_wp2_with fail
      go_quiet (fail)
      go_wp2_with fail
      go_roundg (n - (k + 1))
      case rel => exact ⟨k + 1, nd + nq, rfl, by omega, by go_num, rfl⟩
      case measure => omega
    · obtain rfl : k = n := by omega
      go_wp2
      go_ret
      exact ⟨rfl, below_drewN HB0.out _⟩
end
end Go.Proofs.YtgfoljpjdmeooaaGreatDoor

/- SubstFresh: rows of strings, shorts, Fresh at any text. -/
import Derived.Test.YthefknoicelhaaaGreatDoorFZL
namespace Go.Proofs.YthefknoicelhaaaGreatDoor.Se
open Go.RowKit Nmx
open Go.MapKept

/-- a slice of strings that came in -/
structure StrA (w : World) (ao : Option Addr) (cap : Nat) (ss : List ByteArray) : Prop where
  le : ss.length ≤ cap
  rd : 0 < cap → ∃ g off, ao = some ⟨g, off, none⟩ ∧ g < w.heap.size ∧ ∀ i s, ss[i]? = some s → w.cell? ⟨g, off + i, none⟩ = some (.string s)
theorem StrA.far {w w' : World} {ao : Option Addr} {cap : Nat} {ss : List ByteArray} (h : StrA w ao cap ss) (hb : Below w.heap.size w w') : StrA w' ao cap ss :=
  ⟨h.le, fun h0 => let ⟨g, o, e, hg, hc⟩ := h.rd h0; ⟨g, o, e, Nat.lt_of_lt_of_le hg hb.size, fun i s hs => (hb.cell (p := ⟨g, o + i, none⟩) hg).trans (hc i s hs)⟩⟩
abbrev RowS (B : Nat) (w : World) (v : Value) (ts : List ByteArray) : Prop := w.ownsRow B 9 1 v ts.length (ts.map Value.string)
theorem RowS.far {B : Nat} {w w' : World} {v : Value} {ts : List ByteArray} (h : RowS B w v ts) (hb : Below w.heap.size w w') : RowS B w' v ts := ownsRow_below h hb fun g hg => (h.lt g hg).2
theorem RowS.strs {B : Nat} {w : World} {v : Value} {ts : List ByteArray} (h : RowS B w v ts) (h0 : ts.length ≠ 0) : ∃ g cap, v = .slice (some ⟨g, 0, none⟩) ts.length cap ∧ Strs w (some ⟨g, 0, none⟩) g (ts.map (·.toList)) ∧ B ≤ g := by
  obtain ⟨_, h1 | ⟨g, cap, cur, hv, hb, _⟩⟩ := id h
  · exact absurd h1.2 h0
  · refine ⟨g, cap, hv, ⟨fun _ => rfl, fun k x hx => ?_, (h.lt g (by rw [hv]; rfl)).2⟩, (h.lt g (by rw [hv]; rfl)).1⟩
    rw [List.getElem?_map, Option.map_eq_some_iff] at hx
    obtain ⟨t, ht, rfl⟩ := hx
    have := h.cells (g := g) (by rw [hv]; rfl) k (.string t) (by rw [List.getElem?_map, ht]; rfl)
    rw [add_at] at this
    rw [this, ← bytes_of (s := t) rfl]
theorem RowS.built (w : World) (s : ByteArray) : RowS w.heap.size (w.alloc (.cells #[.string s] 9)) (.slice (some ⟨w.heap.size, 0, none⟩) 1 1) [s] :=
  ⟨rfl, .inr ⟨w.heap.size, 1, #[.string s], rfl, Nat.le_refl _, heap_alloc_new w _, Nat.le_refl _, by decide, rfl, rfl⟩⟩
theorem infoS : (Tryz.prog.info? 9).map (fun i => (i.zero, i.size, i.bytes)) = some (some (.string ⟨#[]⟩), 1, 16) := by kernel_rfl
theorem str_one (ss : List ByteArray) : ∀ u ∈ ss.map Value.string, u.oneCell' = true := by
  intro u hu
  obtain ⟨s, _, rfl⟩ := List.mem_map.1 hu
  rfl
/-- strings that came in are appended to a row of the call's own -/
theorem wpList_append_strA {w : World} {ops : Array Oper} {rest : List Oper} {o : Oper} {a : Act} {Q : Exit → Act → World → Prop} (hgd : o.guard = none) (s x : Operand) (t : TypeId)
    (ho : o.op = .call { callee := .builtin .append, args := #[s, x], argTypes := #[t, t] })
    (base : Nat) (e : TypeId) (i : TypeInfo) (z : Value) (ht : Tryz.prog.underlying t = some (.slice e)) (hi : Tryz.prog.info? e = some i) (hz : i.zero = some z)
    (hsize : i.size = 1) (hby : i.bytes = 16) (hzs : z.cells.size = 1)
    (v : Value) (n : Nat) (xs : List Value) (hs : a.eval s = v) (hown : w.ownsRow base e 1 v n xs)
    (ao : Option Addr) (m c : Nat) (ss : List ByteArray) (hm : ss.length = m) (hx : a.eval x = .slice ao m c) (hA : StrA w ao c ss) (hn : ao = none → c = 0)
    (h63 : n + m ≤ maxLen) (hbytes : (n + m) * 16 ≤ 140737488355328) (hbase : base ≤ w.heap.size)
    (h : ∀ v' w', w'.ownsRow base e 1 v' (n + m) (xs ++ ss.map Value.string) → w.grownBy w' v.ownBlock → wpList Tryz.prog ops Q rest (a.put o.dst v') w') : wpList Tryz.prog ops Q (o :: rest) a w := by
  cases ao with
  | none =>
    have hc := hn rfl
    have hm0 : m = 0 := by have := hA.le; omega
    subst hc hm0
    have hss : ss = [] := List.length_eq_zero_iff.1 hm
    subst hss
    refine wpList_append_own_none hgd s x t ho base e i 1 ht hi v n xs hs hown hx ?_
    exact h v w (by simpa using hown) ⟨rfl, rfl, rfl, Nat.le_refl _, fun _ _ _ => rfl⟩
  | some ad =>
    have hv : ∀ j u, (ss.map Value.string)[j]? = some u → w.cell? (ad.add j) = some u := by
      intro j u hu
      rw [List.getElem?_map, Option.map_eq_some_iff] at hu
      obtain ⟨t, hj, rfl⟩ := hu
      have hjl := (List.getElem?_eq_some_iff.1 hj).1
      obtain ⟨g, off, e, -, hc⟩ := hA.rd (by have := hA.le; omega)
      cases e
      have := hc j t hj
      rwa [show (⟨g, off, none⟩ : Addr).add j = ⟨g, off + j, none⟩ by unfold Addr.add; split <;> simp_all]
    refine wpList_append_own w hgd s x t ho base e i z 1 16 ht hi hz hsize hby hzs (by decide) v n xs hs hown ad m c (ss.map Value.string) hx (by rw [List.length_map, hm, Nat.mul_one]) hv (str_one ss) h63 hbytes hbase fun v' w' h2 h3 _ => ?_
    exact h v' w' h2 h3
/-- few, short names -/
def shoF (ts : List ByteArray) : Bool := (ts.all fun s => decide (s.size ≤ 60)) && decide (ts.length ≤ 12)
/-- what Fresh answers at any text -/
def frB (b : ByteArray) (l : List (List UInt8)) : ByteArray := if nameF b.toList = true then ⟨(freshF b.toList l).toArray⟩ else ⟨#[]⟩
section
set_option maxRecDepth 100000
set_option maxHeartbeats 4000000
theorem freshPA (b : ByteArray) (l : List (List UInt8)) (ao : Option Addr) (B n cap : Nat) (w : World) (hn : l.length = n) (hl : n ≤ 1000) (hB : Strs w ao B l) (hEn : Env w) :
    Calls Tryz.prog 19 #[.string b, .slice ao n cap] w fun e w' => e = .returned (.string (frB b l)) ∧ Below w.heap.size w w' := by
  subst hn
  unfold frB
  cases h : nameF b.toList with
  | true => exact freshP_any b l ao B cap w hl hB hEn h
  | false =>
    refine (freshP_no b (.slice ao l.length cap) w h).mono ?_
    rintro e w' ⟨rfl, rfl⟩
    exact ⟨rfl, Below.refl _ _⟩
theorem freshRA (b : ByteArray) (l : List (List UInt8)) (ao : Option Addr) (B n cap : Nat) (w : World) (hn : l.length = n) (hl : n ≤ 1000) (hB : Strs w ao B l) (hEn : Env w) :
    Calls Tryz.prog 18 #[.string b, .slice ao n cap] w fun e w' => e = .returned (.string (frB b l)) ∧ Below w.heap.size w w' := by
  subst hn
  unfold frB
  cases h : nameF b.toList with
  | true => exact refFresh_any b l ao B cap w hl hB hEn h
  | false => exact refFresh_no b (.slice ao l.length cap) w h
theorem shorts_any (ts : List ByteArray) (g cap n : Nat) (w : World) (hn : ts.length = n) (hl : n ≤ 10000000000000) (hB : Strs w (some ⟨g, 0, none⟩) g (ts.map (·.toList))) :
    Calls Tryz.prog 6 #[.slice (some ⟨g, 0, none⟩) n cap] w fun e w' => e = .returned (.bool (shoF ts)) ∧ w' = w := by
  have HB := Lib.hid hB
  have HN := Lib.hid hn
  clear hB hn
  go_enter Tryz.func6, Tryz.ntmps6
  go_wp2
  go_loop [3] (fun iv => ∃ k : Nat, k ≤ n ∧ iv = .int .i64 k ∧ ((ts.take k).all fun s => decide (s.size ≤ 60)) = true) (fun iv => n - (intOf iv).toNat)
  case atStart => exact ⟨0, Nat.zero_le _, rfl, rfl⟩
  case round =>
    obtain ⟨k, hk, rfl, ha⟩ := hrel
    have HA := Lib.hid ha
    clear ha
    by_cases hlt : k < n
    · have hkl : k < ts.length := by rw [HN.out]; exact hlt
      have hlti : (k : Int) < (n : Int) := by omega
      have hc : w.cell? ⟨g, k, none⟩ = some (.string ts[k]) := by
        have := HB.out.cells k ts[k].toList (by rw [List.getElem?_map, List.getElem?_eq_getElem hkl]; rfl)
        rwa [← bytes_of (s := ts[k]) rfl] at this
      have HT : Hid ((ts.take (k + 1)) = ts.take k ++ [ts[k]]) := Lib.hid (List.take_succ_eq_append_getElem hkl)
      have HM : Hid (ts[k] ∈ ts) := Lib.hid (List.getElem_mem hkl)
      generalize ts[k] = s at *
      clear hkl
      by_cases hs : 60 < s.size
      · have hsi : (60 : Int) < (s.size : Int) := by omega
        have HR : Hid (shoF ts = false) := Lib.hid (by
          unfold shoF
          rw [Bool.and_eq_false_iff]
          exact .inl (List.all_eq_false.2 ⟨s, HM.out, by simp; omega⟩))
        clear hs
        go_wp2
        go_ret
        exact ⟨by rw [HR.out]; rfl, rfl⟩
      · have hsi : ¬ (60 : Int) < (s.size : Int) := by omega
        have HR : Hid (((ts.take (k + 1)).all fun s => decide (s.size ≤ 60)) = true) := Lib.hid (by
          rw [HT.out, List.all_append, HA.out]; simp; omega)
        clear hs
        go_wp2
        go_round
        case rel => exact ⟨k + 1, by omega, by go_num, HR.out⟩
        case measure => simp [intOf]; omega
    · have hlti : ¬ (k : Int) < (n : Int) := by omega
      have HR : Hid (shoF ts = decide (n ≤ 12)) := Lib.hid (by
        have := HA.out
        rw [List.take_of_length_le (by rw [HN.out]; omega)] at this
        unfold shoF
        rw [this, HN.out]; rfl)
      have hd : decide ((n : Int) ≤ 12) = decide (n ≤ 12) := by
        by_cases h : n ≤ 12
        · rw [decide_eq_true h, decide_eq_true (by omega)]
        · rw [decide_eq_false h, decide_eq_false (by omega)]
      have HD := Lib.hid hd
      clear hd
      go_wp2
      go_ret
      exact ⟨ret_bool (by rw [HR.out, ← HD.out]), rfl⟩
/-- gen.Mod, as the walk wants it -/
theorem modN_any (a b : Int) (w : World) (hb : 1 ≤ b) (hb' : b ≤ 1000000000000000000) :
    Calls Tryz.prog 17 #[.int .i64 a, .int .i64 b] w fun e w' => e = .returned (.int .i64 ((a % 18446744073709551616) % b)) ∧ w' = w := by
  have hwr : IntKind.u64.wrap a = a % 18446744073709551616 := by rw [IntKind.wrap_u64]
  have HW := Lib.hid hwr
  clear hwr
  go_enter Tryz.func17, Tryz.ntmps17
  go_wp2
  go_ret
  refine ⟨ret_int ?_, rfl⟩
  rw [HW.out, Int.tmod_eq_emod_of_nonneg (by omega)]
  have h0 := Int.emod_nonneg (a % 18446744073709551616) (show b ≠ 0 by omega)
  have h3 := Int.emod_lt_of_pos (a % 18446744073709551616) (show 0 < b by omega)
  exact IntWalk.wrap64_in _ ⟨by omega, by omega⟩
theorem modN_at (a b : Int) (hb : 1 ≤ b) (hb' : b ≤ 1000000000000000000) : ∃ m : Nat, (m : Int) < b ∧ ∀ w : World, Calls Tryz.prog 17 #[.int .i64 a, .int .i64 b] w fun e w' => e = .returned (.int .i64 m) ∧ w' = w := by
  have h0 := Int.emod_nonneg (a % 18446744073709551616) (show b ≠ 0 by omega)
  have h3 := Int.emod_lt_of_pos (a % 18446744073709551616) (show 0 < b by omega)
  obtain ⟨m, hm⟩ : ∃ m : Nat, (m : Int) = (a % 18446744073709551616) % b := ⟨((a % 18446744073709551616) % b).toNat, by omega⟩
  exact ⟨m, by omega, fun w => by rw [hm]; exact modN_any a b w hb hb'⟩
end
theorem RowS.nil (B : Nat) (w : World) : w.ownsRow B 9 1 (.slice none 0 0) 0 [] := ⟨rfl, .inl ⟨rfl, rfl⟩⟩
theorem RowS.of {B n : Nat} {w : World} {v : Value} {xs : List Value} {ts : List ByteArray} (h : w.ownsRow B 9 1 v n xs) (hn : ts.length = n) (hx : ts.map Value.string = xs) : RowS B w v ts := by
  show World.ownsRow _ _ _ _ _ _ _
  rw [hn, hx]; exact h
end Go.Proofs.YthefknoicelhaaaGreatDoor.Se

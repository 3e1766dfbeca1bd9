/- Sets of names as maps; Fresh on both sides. -/
import Derived.Test.YthefknoicelhaaaGreatDoorFUQ
import Derived.Test.YthefknoicelhaaaGreatDoorFZF
import Derived.Test.YthefknoicelhaaaGreatDoorFZG
import Derived.Test.YthefknoicelhaaaGreatDoorFNL
import Derived.Test.YthefknoicelhaaaGreatDoorFShelf
namespace Go.Proofs.YthefknoicelhaaaGreatDoor
open Go.RowKit Nmx
open Go.MapKept

theorem findS_put (s : ByteArray) (v : Value) : ∀ (kvs : List (ByteArray × Value)) (i : Nat), ∃ j, findS s (putS s v kvs) i = some (j, v)
  | [], i => ⟨i, by simp [putS, findS]⟩
  | p :: l, i => by
    unfold putS
    by_cases h : s = p.1
    · rw [if_pos h]; exact ⟨i, by simp [findS]⟩
    · rw [if_neg h]; unfold findS; rw [if_neg h]; exact findS_put s v l (i + 1)
theorem findS_put_ne {s t : ByteArray} (v : Value) (h : s ≠ t) : ∀ (kvs : List (ByteArray × Value)) (i : Nat), findS s (putS t v kvs) i = findS s kvs i
  | [], i => by simp [putS, findS, h]
  | p :: l, i => by
    unfold putS
    by_cases h2 : t = p.1
    · rw [if_pos h2]; simp [findS, ← h2, h]
    · rw [if_neg h2]; unfold findS; rw [findS_put_ne v h l (i + 1)]
/-- a map whose keys are these names, each with the value true -/
def SetS (w : World) (B : Nat) (L : List (List UInt8)) : Prop := ∃ kvs, MapS w B kvs ∧ ∀ s : ByteArray, (s.toList ∈ L → ∃ j, findS s kvs 0 = some (j, .bool true)) ∧ (s.toList ∉ L → findS s kvs 0 = none)
theorem SetS.lt {w : World} {B : Nat} {L : List (List UInt8)} (h : SetS w B L) : B < w.heap.size := let ⟨_, h, _⟩ := h; h.lt
theorem SetS.far {w w' : World} {B : Nat} {L : List (List UInt8)} (h : SetS w B L) (hb : Below w.heap.size w w') : SetS w' B L := let ⟨k, h1, h2⟩ := h; ⟨k, h1.far hb, h2⟩
theorem SetS.but {w w' : World} {B : Nat} {L : List (List UInt8)} (h : SetS w B L) (hb : w'.heap[B]? = w.heap[B]?) : SetS w' B L := let ⟨k, h1, h2⟩ := h; ⟨k, h1.but hb, h2⟩
theorem SetS.made (w : World) : SetS (w.alloc (.map #[] 0)) w.heap.size [] := ⟨[], MapS.made w, fun _ => ⟨fun h => (List.not_mem_nil h).elim, fun _ => rfl⟩⟩
theorem SetS.put {w : World} {B : Nat} {L : List (List UInt8)} {s : ByteArray} {kvs : List (ByteArray × Value)} (hk : ∀ s : ByteArray, (s.toList ∈ L → ∃ j, findS s kvs 0 = some (j, .bool true)) ∧ (s.toList ∉ L → findS s kvs 0 = none)) (h : MapS w B (putS s (.bool true) kvs)) : SetS w B (L ++ [s.toList]) := by
  refine ⟨_, h, fun t => ?_⟩
  by_cases ht : t = s
  · subst ht
    exact ⟨fun _ => findS_put t _ _ 0, fun h => absurd (by simp) h⟩
  · have hne : t.toList ≠ s.toList := fun e => ht (by rw [bytes_of (x := s.toList) e, ← bytes_of (s := s) rfl])
    rw [findS_put_ne _ ht]
    simpa [hne] using hk t
section
variable {P : Program} {k e t : TypeId} (hk : P.underlying k = some .string) (ht : P.underlying t = some (.map k e)) {w : World} {B : Nat} {kvs : List (ByteArray × Value)} (h : MapS w B kvs)
include hk ht h
theorem run_look1_hit {s : ByteArray} {j : Nat} {v : Value} (hf : findS s kvs 0 = some (j, v)) : (Instr.lookup t (.map (some B)) (.string s) false).run P w = .ok v w := by
  obtain ⟨es, c, h1, h2⟩ := h
  have hn := findNow_str s es.toList kvs 0 h2
  rw [hf] at hn
  simp [Instr.lookup, run_underlying ht, Go.run_getObj_map _ _ _ _ h1, run_checkKey hk (k := .string s) trivial, run_findKey hk hn, Result.andThen]
theorem run_look1_miss {s : ByteArray} {z : Value} (hf : findS s kvs 0 = none) (hz : (zeroValue e).run P w = .ok z w) : (Instr.lookup t (.map (some B)) (.string s) false).run P w = .ok z w := by
  obtain ⟨es, c, h1, h2⟩ := h
  have hn := findNow_str s es.toList kvs 0 h2
  rw [hf] at hn
  simp [Instr.lookup, run_underlying ht, Go.run_getObj_map _ _ _ _ h1, run_checkKey hk (k := .string s) trivial, run_findKey hk hn, Result.andThen, hz]
end
section
variable {P : Program} {w : World} {ops : Array Oper} {rest : List Oper} {o : Oper} {a : Act} {Q : Exit → Act → World → Prop} (hg : o.guard = none) (k e t : TypeId)
include hg
theorem wpList_look1_hit (x i : Operand) (hop : o.op = Op.lookup t x i false) (hk : P.underlying k = some .string) (ht : P.underlying t = some (.map k e)) (B : Nat) (kvs : List (ByteArray × Value)) (hm : a.eval x = .map (some B)) (h : MapS w B kvs) (s : ByteArray) (hs : a.eval i = .string s) (j : Nat) (v : Value) (hf : findS s kvs 0 = some (j, v))
    (hK : wpList P ops Q rest (a.put o.dst v) w) : wpList P ops Q (o :: rest) a w := by
  refine wpList_plain hg fun K' hK' => ?_
  have hrun := run_look1_hit hk ht h hf
  unfold Oper.wp
  simp [execOp, hop, hm, hs, hrun, Result.andThen]
  exact hK' _ _ hK
theorem wpList_look1_miss (x i : Operand) (hop : o.op = Op.lookup t x i false) (hk : P.underlying k = some .string) (ht : P.underlying t = some (.map k e)) (B : Nat) (kvs : List (ByteArray × Value)) (hm : a.eval x = .map (some B)) (h : MapS w B kvs) (s : ByteArray) (hs : a.eval i = .string s) (z : Value) (hf : findS s kvs 0 = none) (hz : (zeroValue e).run P w = .ok z w)
    (hK : wpList P ops Q rest (a.put o.dst z) w) : wpList P ops Q (o :: rest) a w := by
  refine wpList_plain hg fun K' hK' => ?_
  have hrun := run_look1_miss hk ht h hf hz
  unfold Oper.wp
  simp [execOp, hop, hm, hs, hrun, Result.andThen]
  exact hK' _ _ hK
end
theorem zeroBool (w : World) : (zeroValue 4).run Tryz.prog w = .ok (.bool false) w := by kernel_rfl
/-- where the search stands -/
def FrI (b : List UInt8) (l : List (List UInt8)) (k : Nat) (x : List UInt8) : Prop := freshF b l = (if x ∈ l then freshK l b (l.length + 1 - k) k else x) ∧ (k ≤ l.length + 1 ∨ x ∉ l)
theorem FrI.start (b : List UInt8) (l : List (List UInt8)) : FrI b l 1 b := ⟨by rw [Nat.add_sub_cancel]; rfl, Or.inl (by omega)⟩
theorem FrI.step {b x : List UInt8} {l : List (List UInt8)} {k : Nat} (h : FrI b l k x) (hx : x ∈ l) : k ≤ l.length + 1 ∧ FrI b l (k + 1) (candF b k) := by
  obtain ⟨h1, h2⟩ := h
  have hk : k ≤ l.length + 1 := h2.resolve_right fun h => h hx
  rw [if_pos hx] at h1
  refine ⟨hk, ?_⟩
  cases hn : l.length + 1 - k with
  | zero =>
    rw [hn] at h1
    have hf : candF b k ∉ l := by have := fresh_free b l; rw [h1] at this; exact this
    exact ⟨by rw [if_neg hf, h1]; rfl, Or.inr hf⟩
  | succ m =>
    rw [hn] at h1
    exact ⟨by rw [show l.length + 1 - (k + 1) = m by omega, h1]; rfl, Or.inl (by omega)⟩
theorem FrI.done {b x : List UInt8} {l : List (List UInt8)} {k : Nat} (h : FrI b l k x) (hx : x ∉ l) : freshF b l = x := by rw [h.1, if_neg hx]
theorem tail_small {k : Nat} (h : k ≤ 1002) : (tailF k).length ≤ 5 ∧ (decN k).length ≤ 4 := by
  have := tail_len (k := k) (n := 4) (by omega) (by omega)
  have h2 := decN_len_le (n := k) (k := 4) (by omega) (by omega)
  exact ⟨this, h2⟩
/-- the candidate, as the program puts it together -/
def candB (b : ByteArray) (k : Nat) : ByteArray := ⟨(candF b.toList k).toArray⟩
theorem candB_list (b : ByteArray) (k : Nat) : (candB b k).toList = candF b.toList k := toList_mk _
theorem cand_cut (b : ByteArray) (k : Nat) : b.extract 0 (min b.size (40 - (tailF k).length)) ++ ⟨(tailF k).toArray⟩ = candB b k := by
  apply bytes_of
  rw [ByteArray.toList_eq, ByteArray.data_append, Array.toList_append, ex_data]
  unfold candF
  rw [list_len, ByteArray.toList_eq]; simp
theorem bang_cat (k : Nat) : (⟨#[33]⟩ : ByteArray) ++ ⟨(decN k).toArray⟩ = ⟨(tailF k).toArray⟩ := by
  apply bytes_of
  rw [ByteArray.toList_eq, ByteArray.data_append, Array.toList_append]; rfl
section
set_option maxRecDepth 100000
set_option maxHeartbeats 4000000
theorem freshP_no (b : ByteArray) (v : Value) (w : World) (hn : nameF b.toList = false) :
    Calls Tryz.prog 19 #[.string b, v] w fun e w' => e = .returned (.string ⟨#[]⟩) ∧ w' = w := by
  have hc := isName_any b w
  rw [hn] at hc
  clear hn
  go_enter Tryz.func19, Tryz.ntmps19
  go_wp2_with fail
  refine hc.mono ?_
  rintro e w2 ⟨rfl, rfl⟩
  go_wp2
  go_ret
  exact ⟨rfl, rfl⟩
theorem freshP_any (b : ByteArray) (l : List (List UInt8)) (ao : Option Addr) (B cap : Nat) (w : World) (hl : l.length ≤ 1000) (hB : Strs w ao B l) (hEn : Env w) (hn : nameF b.toList = true) :
    Calls Tryz.prog 19 #[.string b, .slice ao l.length cap] w fun e w' => e = .returned (.string ⟨(freshF b.toList l).toArray⟩) ∧ Below w.heap.size w w' := by
  have hc := isName_any b w
  have hsz : b.size ≤ 40 := by
    have h := hn
    unfold nameF at h
    simp only [Bool.and_eq_true, decide_eq_true_eq] at h
    rw [← list_len]; exact h.1.1.2
  rw [hn] at hc
  have HB := Lib.hid hB
  have HEN := Lib.hid hEn
  have HSZ := Lib.hid hsz
  have HL := Lib.hid hl
  clear hn hB hEn hsz
  go_enter Tryz.func19, Tryz.ntmps19
  go_wp2_with fail
  refine hc.mono ?_
  rintro e w2 ⟨rfl, rfl⟩
  have hm1 := @run_makeMapN Tryz.prog 75 _ _ Tryz.underlying75 .i64 l.length
  have HM := Lib.hid (SetS.made w2)
  have HBW := Lib.hid ((Below.refl w2.heap.size w2).alloc (Nat.le_refl _) (.map #[] 0))
  clear hc
  go_wp2
  generalize hw1 : w2.alloc (.map #[] 0) = w1 at *
  generalize hS : w2.heap.size = S at *
  have HS := Lib.hid hS
  clear hS hw1
  go_loopw [19] (fun iv wr => ∃ k : Nat, k ≤ l.length ∧ iv = .int .i64 k ∧ SetS wr S (l.take k) ∧ Below S w2 wr) (fun iv _ => l.length - (intOf iv).toNat)
  case atStart => exact ⟨0, Nat.zero_le _, rfl, by rw [List.take_zero]; exact HM.out, HBW.out⟩
  case round =>
    obtain ⟨k, hk, rfl, hs, hb⟩ := hrel
    have HSS := Lib.hid hs
    have HBB := Lib.hid hb
    clear hs hb HM HBW
    by_cases hlt : k < l.length
    · have hc : wr.cell? ⟨B, k, none⟩ = some (.string ⟨l[k].toArray⟩) := (HBB.out.cell (p := ⟨B, k, none⟩) (by rw [← HS.out]; exact HB.out.lt)).trans (HB.out.cells k _ (List.getElem?_eq_getElem hlt))
      obtain rfl := HB.out.adr (by omega)
      have hlti : (k : Int) < (l.length : Int) := by omega
      have HT : Hid (l.take (k + 1) = l.take k ++ [(⟨l[k].toArray⟩ : ByteArray).toList]) := Lib.hid (by rw [List.take_succ_eq_append_getElem hlt, toList_mk])
      obtain ⟨x, hx⟩ : ∃ x : ByteArray, (⟨l[k].toArray⟩ : ByteArray) = x := ⟨_, rfl⟩
      rw [hx] at hc HT
      obtain ⟨kvs, hmk, hkk⟩ := HSS.out
      have HMK := Lib.hid hmk
      have HKK := Lib.hid hkk
      clear hx hmk hkk
      go_wp2_with (at_mapUpdate; go_loud (refine wpList_put_any rfl 9 4 75 _ _ _ rfl Tryz.underlying9 Tryz.underlying75 S _ rfl HMK.out x rfl _ rfl ?_))
      intro w4 hm hgr
      have HN := Lib.hid (SetS.put HKK.out hm)
      have HG := Lib.hid (HBB.out.grown hgr (Nat.le_of_lt HMK.out.lt) (fun k e => by cases e; exact Nat.le_refl _))
      clear hm hgr
      go_wp2_with fail
      go_roundw
      case rel => exact ⟨k + 1, by omega, by go_num, by rw [HT.out]; exact HN.out, HG.out⟩
      case measure => simp [intOf]; omega
    · have HSF : Hid (SetS wr S l) := Lib.hid (by have := HSS.out; rwa [List.take_of_length_le (by omega)] at this)
      clear HSS
      go_wp2
      go_loopw [8, 9] (fun nv kv wx => ∃ (j : Nat) (x : ByteArray), 1 ≤ j ∧ kv = .int .i64 j ∧ nv = .string x ∧ FrI b.toList l j x.toList ∧ SetS wx S l ∧ Below S w2 wx) (fun _ kv _ => l.length + 3 - (intOf kv).toNat)
      case atStart => exact ⟨1, b, Nat.le_refl _, rfl, rfl, FrI.start _ _, HSF.out, HBB.out⟩
      case round =>
        clear HSF HBB
        obtain ⟨j, x, hj, rfl, rfl, hI, hs, hb⟩ := hrel
        have HSX := Lib.hid hs
        have HBX := Lib.hid hb
        obtain ⟨kvs, hmk, hkk⟩ := hs
        have HMK := Lib.hid hmk
        have hHS := (Nat.le_of_lt HMK.out.lt : S ≤ _)
        have HSL := Lib.hid hHS
        clear hb hmk hHS
        by_cases hx : x.toList ∈ l
        · obtain ⟨jf, hjf⟩ := (hkk x).1 hx
          obtain ⟨hj1, hI2⟩ := FrI.step hI hx
          have HF := Lib.hid hjf
          have HI2 := Lib.hid hI2
          have HTS := Lib.hid (tail_small (k := j) (by omega))
          have HCC := Lib.hid (cand_cut b j)
          have HBC := Lib.hid (bang_cat j)
          have hit := Tryz.strconv_Itoa (j : Int) (by omega) (by omega) _ (HEN.out.far (by rw [HS.out]; exact HBX.out)).tab
          rw [itoa_eq, decI_nat] at hit
          clear hjf hI hI2 hkk hx
          go_wp2_with (at_lookup; go_loud (refine wpList_look1_hit rfl 9 4 75 _ _ rfl Tryz.underlying9 Tryz.underlying75 S _ rfl HMK.out x rfl jf (.bool true) HF.out ?_))
          refine hit.mono ?_
          rintro e w5 ⟨rfl, kd, os, hw5⟩
          have hb5 : Below wr.heap.size wr w5 := by rw [hw5]; exact Lib.below_grow wr.heap.size _ (Nat.le_refl _) kd os
          have HS5 := Lib.hid (HSX.out.far hb5)
          have HB5 := Lib.hid (HBX.out.trans (hb5.mono HSL.out))
          have hsb := HSZ.out
          have htl := HTS.out.1
          have hln : (⟨(decN j).toArray⟩ : ByteArray).size + 1 = (tailF j).length := by rw [ByteArray.size]; simp [tailF]
          have hln2 : (⟨(tailF j).toArray⟩ : ByteArray).size = (tailF j).length := by rw [ByteArray.size]; simp
          have hmn : min (b.size : Int) (40 - ((tailF j).length : Int)) = ((min b.size (40 - (tailF j).length) : Nat) : Int) := by omega
          have hmb : min b.size (40 - (tailF j).length) ≤ b.size := Nat.min_le_left _ _
          rw [← HBC.out] at hln2
          clear hw5 hb5 hit HSX HBX
          have hbig : ¬ 9223372036854775807 < 1 + (decN j).length := by have := HTS.out.2; omega
          go_wp2_with fail
          exact ⟨⟨j + 1, candB b j, by omega, by go_num, by rw [HBC.out, HCC.out], by rw [candB_list]; exact HI2.out, HS5.out, HB5.out⟩, by simp [intOf]; omega⟩
        · have HD := Lib.hid (FrI.done hI hx)
          have HF := Lib.hid ((hkk x).2 hx)
          clear hI hx hkk
          go_wp2_with (at_lookup; go_loud (refine wpList_look1_miss rfl 9 4 75 _ _ rfl Tryz.underlying9 Tryz.underlying75 S _ rfl HMK.out x rfl (.bool false) HF.out (zeroBool _) ?_))
          go_ret
          exact ⟨by rw [HD.out, ← bytes_of (s := x) rfl]; rfl, by rw [HS.out]; exact HBX.out⟩
theorem refFresh_no (b : ByteArray) (v : Value) (w : World) (hn : nameF b.toList = false) :
    Calls Tryz.prog 18 #[.string b, v] w fun e w' => e = .returned (.string ⟨#[]⟩) ∧ Below w.heap.size w w' := by
  have hc := refName_any b w
  rw [hn] at hc
  clear hn
  go_enter Tryz.func18, Tryz.ntmps18
  go_wp2_with fail
  refine hc.mono ?_
  rintro e w2 ⟨rfl, hb⟩
  go_wp2
  go_ret
  exact ⟨rfl, hb⟩
theorem any_mem (l : List (List UInt8)) (s : List UInt8) : (l.any fun x => s == x) = decide (s ∈ l) := by
  rw [List.any_beq]; simp [List.contains_eq_mem]
theorem refFresh_any (b : ByteArray) (l : List (List UInt8)) (ao : Option Addr) (B cap : Nat) (w : World) (hl : l.length ≤ 1000) (hB : Strs w ao B l) (hEn : Env w) (hn : nameF b.toList = true) :
    Calls Tryz.prog 18 #[.string b, .slice ao l.length cap] w fun e w' => e = .returned (.string ⟨(freshF b.toList l).toArray⟩) ∧ Below w.heap.size w w' := by
  have hc := refName_any b w
  have hsz : b.size ≤ 40 := by
    have h := hn
    unfold nameF at h
    simp only [Bool.and_eq_true, decide_eq_true_eq] at h
    rw [← list_len]; exact h.1.1.2
  rw [hn] at hc
  have HB := Lib.hid hB
  have HEN := Lib.hid hEn
  have HSZ := Lib.hid hsz
  have HL := Lib.hid hl
  clear hn hB hEn hsz
  go_enter Tryz.func18, Tryz.ntmps18
  go_wp2_with fail
  refine hc.mono ?_
  rintro e w2 ⟨rfl, hb2⟩
  have HB2 := Lib.hid hb2
  have hin := in2_any l b ao B cap w2 HL.out (HB.out.far hb2)
  rw [any_mem] at hin
  clear hc hb2
  by_cases hx : b.toList ∈ l
  · rw [decide_eq_true hx] at hin
    have HJ := Lib.hid (FrI.step (FrI.start b.toList l) hx)
    clear hx
    go_wp2_with fail
    refine hin.mono ?_
    rintro e w3 ⟨rfl, rfl⟩
    clear hin
    go_wp2
    go_loopw [5] (fun kv wx => ∃ (j : Nat), 1 ≤ j ∧ j ≤ l.length + 1 ∧ kv = .int .i64 j ∧ FrI b.toList l (j + 1) (candF b.toList j) ∧ Below w.heap.size w wx) (fun kv _ => l.length + 3 - (intOf kv).toNat)
    case atStart => exact ⟨1, Nat.le_refl _, HJ.out.1, rfl, HJ.out.2, HB2.out⟩
    case round =>
      clear HJ HB2
      obtain ⟨j, hj, hj1, rfl, hI, hb⟩ := hrel
      have HI := Lib.hid hI
      have HBX := Lib.hid hb
      have HTS := Lib.hid (tail_small (k := j) (by omega))
      have HCC := Lib.hid (cand_cut b j)
      have HBC := Lib.hid (bang_cat j)
      have hit := refFromInt_any (j : Int) wr (by omega) (by omega)
      rw [decI_nat] at hit
      clear hI hb
      go_wp2_with fail
      refine hit.mono ?_
      rintro e w5 ⟨rfl, hb5⟩
      have HB5 := Lib.hid (HBX.out.trans (hb5.mono HBX.out.size))
      have hsb := HSZ.out
      have htl := HTS.out.1
      have hln : (⟨(decN j).toArray⟩ : ByteArray).size + 1 = (tailF j).length := by rw [ByteArray.size]; simp [tailF]
      have hln2 : (⟨(tailF j).toArray⟩ : ByteArray).size = (tailF j).length := by rw [ByteArray.size]; simp
      have hmn : min (b.size : Int) (40 - ((tailF j).length : Int)) = ((min b.size (40 - (tailF j).length) : Nat) : Int) := by omega
      have hmb : min b.size (40 - (tailF j).length) ≤ b.size := Nat.min_le_left _ _
      rw [← HBC.out] at hln2
      have hbig : ¬ 9223372036854775807 < 1 + (decN j).length := by have := HTS.out.2; omega
      have hin := in2_any l (candB b j) ao B cap w5 HL.out (HB.out.far HB5.out)
      rw [any_mem, candB_list, ← HCC.out, ← HBC.out] at hin
      clear hb5 hit HBX
      by_cases hx : candF b.toList j ∈ l
      · rw [decide_eq_true hx] at hin
        obtain ⟨hj2, hI2⟩ := FrI.step HI.out hx
        have HI2 := Lib.hid hI2
        clear hx hI2 HI
        go_wp2_with fail
        refine hin.mono ?_
        rintro e w6 ⟨rfl, rfl⟩
        clear hin
        go_wp2
        go_roundw
        case rel => exact ⟨j + 1, by omega, by omega, by go_num, HI2.out, HB5.out⟩
        case measure => simp [intOf]; omega
      · rw [decide_eq_false hx] at hin
        have HD := Lib.hid (FrI.done HI.out hx)
        clear hx HI
        go_wp2_with fail
        refine hin.mono ?_
        rintro e w6 ⟨rfl, rfl⟩
        clear hin
        go_wp2
        go_ret
        exact ⟨by rw [HD.out, HBC.out, HCC.out]; rfl, HB5.out⟩
  · rw [decide_eq_false hx] at hin
    have HD := Lib.hid (FrI.done (FrI.start b.toList l) hx)
    clear hx
    go_wp2_with fail
    refine hin.mono ?_
    rintro e w3 ⟨rfl, rfl⟩
    clear hin
    go_wp2
    go_ret
    exact ⟨by rw [HD.out, ← bytes_of (s := b) rfl]; rfl, HB2.out⟩
end
end Go.Proofs.YthefknoicelhaaaGreatDoor

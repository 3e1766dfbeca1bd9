/- Parse of package exact at texts without a slash. -/
import Derived.Test.YtgehimcngljmnaaGreatDoorW
namespace Go.Proofs.YtgehimcngljmnaaGreatDoor
open Go.RowKit Nmx

theorem indexByte_cut : ∀ l : List UInt8, (l.contains 47 = true → 0 ≤ Lib.indexByte l 47 ∧ l.take (Lib.indexByte l 47).toNat = upto l ∧ l.drop ((Lib.indexByte l 47).toNat + 1) = behind l) ∧ (l.contains 47 = false → Lib.indexByte l 47 = -1) := by
  intro l
  induction l with
  | nil => exact ⟨fun h => by simp at h, fun _ => rfl⟩
  | cons b r ih =>
    obtain ⟨i1, i2⟩ := ih
    by_cases hb : b = 47
    · subst hb
      exact ⟨fun _ => ⟨by simp [Lib.indexByte], by simp [Lib.indexByte, upto], by simp [Lib.indexByte, behind]⟩, fun h => by simp at h⟩
    · have hb' : (b == (47 : UInt8)) = false := by simpa using hb
      have hbn : (b != (47 : UInt8)) = true := by simpa using hb
      have hc : (b :: r).contains 47 = r.contains 47 := by
        rw [List.contains_cons]
        rw [show ((47 : UInt8) == b) = false by rw [beq_eq_false_iff_ne]; exact fun e => hb e.symm]
        simp
      rw [hc]
      constructor
      · intro h
        obtain ⟨h0, h1, h2⟩ := i1 h
        have hi : Lib.indexByte (b :: r) 47 = Lib.indexByte r 47 + 1 := by
          have hne : (Lib.indexByte r 47 == -1) = false := by rw [beq_eq_false_iff_ne]; omega
          simp [Lib.indexByte, hb', hne]
        obtain ⟨n, hn⟩ := Int.eq_ofNat_of_zero_le h0
        rw [hi, hn]
        have e1 : ((n : Int) + 1).toNat = n + 1 := by omega
        rw [hn] at h1 h2
        rw [e1]
        simp only [Int.toNat_natCast] at h1 h2
        refine ⟨by omega, ?_, ?_⟩
        · rw [List.take_succ_cons, h1]; unfold upto; rw [List.takeWhile_cons, hbn]; simp
        · rw [List.drop_succ_cons, h2]; unfold behind; rw [List.dropWhile_cons, hbn]; simp
      · intro h
        rw [Lib.indexByte, hb', i2 h]; rfl
/-- the shelf's Cut at a slash, in words of one's own -/
theorem cut_slash (l : List UInt8) : Lib.cut l [47] = if l.contains 47 then (upto l, behind l, true) else (l, [], false) := by
  unfold Lib.cut
  rw [Lib.index_one]
  obtain ⟨h1, h2⟩ := indexByte_cut l
  by_cases hc : l.contains 47 = true
  · obtain ⟨a, b, c⟩ := h1 hc
    rw [if_pos a, if_pos hc, b]
    simp only [List.length_singleton, c]
  · have hf : l.contains 47 = false := by simpa using hc
    rw [h2 hf, hf]; rfl

def ParsePost (l : List UInt8) (w : World) (e : Ending) (w' : World) : Prop := ∃ v, e = .returned (.tuple #[v, .bool (ratF l).isSome]) ∧ RV w' v ((ratF l).getD 0) ∧ Below w.heap.size w w'
theorem ratF_int {l : List UInt8} (h : l.contains 47 = false) : ratF l = Option.map (fun z : Int => (z : Rat)) (canonF l) := by unfold ratF; rw [if_pos h]
theorem end_rb {fn : Func} {t t' : Tmp} {a : Act} {w w2 : World} {R : Nat} {q : Rat} {bb : Bool} {s1 : Int} {b1 : Bool} {a1 : Option Addr} {n1 c1 : Nat} {s2 : Int} {b2 : Bool} {a2 : Option Addr} {n2 c2 : Nat} {x0 x1 x2 x3 x4 x5 : Value} {Q : Ending → World → Prop} (hres : fn.results = #[.cell t 63, .tmp t']) (hd : a.defers = []) (ht : a.tmps.getD t undef = .pointer (some ⟨R, 0, none⟩)) (ht' : a.tmps.getD t' undef = .bool bb)
    (hR : w2.heap[R]? = some (.cells #[x0, x1, x2, x3, x4, x5] 63 (0, 0))) (hn : IV w2 (.agg #[.int .i64 s1, .bool b1, .slice a1 n1 c1]) q.num) (hdn : IV w2 (.agg #[.int .i64 s2, .bool b2, .slice a2 n2 c2]) (denI q)) (hb : Below w.heap.size w w2) (hRB : w.heap.size ≤ R)
    (hQ : ∀ w3 v, RV w3 v q → Below w.heap.size w w3 → Q (.returned (.tuple #[v, .bool bb])) w3) :
    bodyPost Tryz.prog fn Q .ret a ((((((w2.setCell ⟨R, 0, none⟩ (.int .i64 s1)).setCell ⟨R, 1, none⟩ (.bool b1)).setCell ⟨R, 2, none⟩ (.slice a1 n1 c1)).setCell ⟨R, 3, none⟩ (.int .i64 s2)).setCell ⟨R, 4, none⟩ (.bool b2)).setCell ⟨R, 5, none⟩ (.slice a2 n2 c2)) := by
  show bodyPost Tryz.prog fn Q .ret a (set6 w2 R (.int .i64 s1) (.bool b1) (.slice a1 n1 c1) (.int .i64 s2) (.bool b2) (.slice a2 n2 c2))
  have h3 := set6_heap hR (.int .i64 s1) (.bool b1) (.slice a1 n1 c1) (.int .i64 s2) (.bool b2) (.slice a2 n2 c2)
  have hbl := set6_below hb hRB (.int .i64 s1) (.bool b1) (.slice a1 n1 c1) (.int .i64 s2) (.bool b2) (.slice a2 n2 c2)
  have ho : ∀ k, k ≠ R → (set6 w2 R (.int .i64 s1) (.bool b1) (.slice a1 n1 c1) (.int .i64 s2) (.bool b2) (.slice a2 n2 c2)).heap[k]? = w2.heap[k]? := fun k hk => set6_other hk _ _ _ _ _ _
  have hn2 := hn.heap_same hR (by decide) ho
  have hd2 := hdn.heap_same hR (by decide) ho
  generalize set6 w2 R (.int .i64 s1) (.bool b1) (.slice a1 n1 c1) (.int .i64 s2) (.bool b2) (.slice a2 n2 c2) = w3 at *
  have k0 := heap_cell h3 0
  have k1 := heap_cell h3 1
  have k2 := heap_cell h3 2
  have k3 := heap_cell h3 3
  have k4 := heap_cell h3 4
  have k5 := heap_cell h3 5
  simp at k0 k1 k2 k3 k4 k5
  refine bodyPost_ret (v := .tuple #[.agg #[.int .i64 s1, .bool b1, .slice a1 n1 c1, .int .i64 s2, .bool b2, .slice a2 n2 c2], .bool bb]) ?_ hd (hQ w3 _ ⟨_, _, _, _, _, _, _, _, _, _, rfl, hn2, hd2⟩ hbl)
  have h1 : a.tmps[t]?.getD undef = .pointer (some ⟨R, 0, none⟩) := by simpa using ht
  have h2 : a.tmps[t']?.getD undef = .bool bb := by simpa using ht'
  simp [results, hres, go_sem, h1, h2, k0, k1, k2, k3, k4, k5]
theorem end_rbA {fn : Func} {t t' : Tmp} {a : Act} {w w2 : World} {R : Nat} {q : Rat} {bb : Bool} {s1 : Int} {b1 : Bool} {a1 : Option Addr} {n1 c1 : Nat} {s2 : Int} {b2 : Bool} {a2 : Option Addr} {n2 c2 : Nat} {x0 x1 x2 x3 x4 x5 : Value} {o : Obj} {Q : Ending → World → Prop} (hres : fn.results = #[.cell t 63, .tmp t']) (hd : a.defers = []) (ht : a.tmps.getD t undef = .pointer (some ⟨R, 0, none⟩)) (ht' : a.tmps.getD t' undef = .bool bb)
    (hR : w2.heap[R]? = some (.cells #[x0, x1, x2, x3, x4, x5] 63 (0, 0))) (hn : IV w2 (.agg #[.int .i64 s1, .bool b1, .slice a1 n1 c1]) q.num) (hdn : IV w2 (.agg #[.int .i64 s2, .bool b2, .slice a2 n2 c2]) (denI q)) (hb : Below w.heap.size w w2) (hRB : w.heap.size ≤ R)
    (hQ : ∀ w3 v, RV w3 v q → Below w.heap.size w w3 → Q (.returned (.tuple #[v, .bool bb])) w3) :
    bodyPost Tryz.prog fn Q .ret a (((((((w2.setCell ⟨R, 0, none⟩ (.int .i64 s1)).setCell ⟨R, 1, none⟩ (.bool b1)).setCell ⟨R, 2, none⟩ (.slice a1 n1 c1)).setCell ⟨R, 3, none⟩ (.int .i64 s2)).setCell ⟨R, 4, none⟩ (.bool b2)).setCell ⟨R, 5, none⟩ (.slice a2 n2 c2)).alloc o) := by
  show bodyPost Tryz.prog fn Q .ret a ((set6 w2 R (.int .i64 s1) (.bool b1) (.slice a1 n1 c1) (.int .i64 s2) (.bool b2) (.slice a2 n2 c2)).alloc o)
  have h3 := set6_heap hR (.int .i64 s1) (.bool b1) (.slice a1 n1 c1) (.int .i64 s2) (.bool b2) (.slice a2 n2 c2)
  have hbl := set6_below hb hRB (.int .i64 s1) (.bool b1) (.slice a1 n1 c1) (.int .i64 s2) (.bool b2) (.slice a2 n2 c2)
  have ho : ∀ k, k ≠ R → (set6 w2 R (.int .i64 s1) (.bool b1) (.slice a1 n1 c1) (.int .i64 s2) (.bool b2) (.slice a2 n2 c2)).heap[k]? = w2.heap[k]? := fun k hk => set6_other hk _ _ _ _ _ _
  have hn2 := hn.heap_same hR (by decide) ho
  have hd2 := hdn.heap_same hR (by decide) ho
  generalize set6 w2 R (.int .i64 s1) (.bool b1) (.slice a1 n1 c1) (.int .i64 s2) (.bool b2) (.slice a2 n2 c2) = w3 at *
  replace h3 := (Below.heap_alloc w3 o R (lt_of_heap h3)).trans h3
  replace hn2 := hn2.alloc_of o
  replace hd2 := hd2.alloc_of o
  replace hbl := hbl.alloc hbl.size o
  generalize w3.alloc o = w4 at *
  have k0 := heap_cell h3 0
  have k1 := heap_cell h3 1
  have k2 := heap_cell h3 2
  have k3 := heap_cell h3 3
  have k4 := heap_cell h3 4
  have k5 := heap_cell h3 5
  simp at k0 k1 k2 k3 k4 k5
  refine bodyPost_ret (v := .tuple #[.agg #[.int .i64 s1, .bool b1, .slice a1 n1 c1, .int .i64 s2, .bool b2, .slice a2 n2 c2], .bool bb]) ?_ hd (hQ w4 _ ⟨_, _, _, _, _, _, _, _, _, _, rfl, hn2, hd2⟩ hbl)
  have h1 : a.tmps[t]?.getD undef = .pointer (some ⟨R, 0, none⟩) := by simpa using ht
  have h2 : a.tmps[t']?.getD undef = .bool bb := by simpa using ht'
  simp [results, hres, go_sem, h1, h2, k0, k1, k2, k3, k4, k5]
def zeroR : Array Value := #[.int .i64 0, .bool false, .slice none 0 0, .int .i64 0, .bool false, .slice none 0 0]
theorem ResR.cells {w : World} {R : Nat} (h : w.heap[R]? = some (.cells #[.int .i64 0, .bool false, .slice none 0 0, .int .i64 0, .bool false, .slice none 0 0] 63 (0, 0))) : (w.cell? ⟨R, 0, none⟩ = some (.int .i64 0) ∧ w.cell? ⟨R, 1, none⟩ = some (.bool false) ∧ w.cell? ⟨R, 2, none⟩ = some (.slice none 0 0) ∧ w.cell? ⟨R, 3, none⟩ = some (.int .i64 0) ∧ w.cell? ⟨R, 4, none⟩ = some (.bool false) ∧ w.cell? ⟨R, 5, none⟩ = some (.slice none 0 0)) ∧ (∀ i, w.frozen? ⟨R, i, none⟩ = false) :=
  ⟨⟨heap_cell h 0, heap_cell h 1, heap_cell h 2, heap_cell h 3, heap_cell h 4, heap_cell h 5⟩, fun i => heap_fz h i⟩

section
set_option maxRecDepth 100000
set_option maxHeartbeats 4000000
theorem parse_int (m : Int) (s : ByteArray) (w : World) (hs : s.size ≤ 1000000) (h0 : 0 < w.heap.size) (hM : w.cell? ⟨0, 0, none⟩ = some (.int .i64 m)) (hc : s.data.toList.contains 47 = false) : Calls Tryz.prog 74 #[.string s] w (ParsePost s.data.toList w) := by
  have hcut := fun (W : World) (hW : W.cell? ⟨0, 0, none⟩ = some (.int .i64 m)) => Tryz.strings_Cut s ⟨#[47]⟩ m W (by omega) hW
  have hcs : Lib.cut s.data.toList (⟨#[47]⟩ : ByteArray).data.toList = (s.data.toList, [], false) := by
    have := cut_slash s.data.toList
    rw [hc] at this; exact this
  rw [hcs] at hcut
  simp only at hcut
  have hsb : (⟨s.data.toList.toArray⟩ : ByteArray) = s := by apply ByteArray.ext; simp
  rw [hsb] at hcut
  have hcn := fun W => canonicalInt_any s W hs
  have hM1 : (w.alloc (.cells #[.int .i64 0, .bool false, .slice none 0 0, .int .i64 0, .bool false, .slice none 0 0] 63)).cell? ⟨0, 0, none⟩ = some (.int .i64 m) := (World.cell?_alloc_past _ _ _ h0).trans hM
  have HBL : Hid (Below w.heap.size w (w.alloc (.cells #[.int .i64 0, .bool false, .slice none 0 0, .int .i64 0, .bool false, .slice none 0 0] 63))) := Lib.hid ((Below.refl _ _).alloc (Nat.le_refl _) _)
  have HRR : Hid ((w.alloc (.cells #[.int .i64 0, .bool false, .slice none 0 0, .int .i64 0, .bool false, .slice none 0 0] 63)).heap[w.heap.size]? = some (.cells #[.int .i64 0, .bool false, .slice none 0 0, .int .i64 0, .bool false, .slice none 0 0] 63 (0, 0))) := Lib.hid (heap_alloc_new w _)
  have HF := Lib.hid (ratF_int hc)
  clear hcs hsb hM hc
  go_enter Tryz.func74, Tryz.ntmps74
  go_wp2_with fail
  refine (hcut _ hM1).mono ?_
  rintro e w1 ⟨rfl, nq, rfl⟩
  clear hM1 hcut
  go_wp2_with fail
  refine (hcn _).mono ?_
  rintro e w2 ⟨v2, rfl, hv2, hb2⟩
  have HV2 := Lib.hid hv2
  obtain ⟨s1, b1, a1, n1, c1, rfl⟩ := iv_form hv2
  have HB2 := Lib.hid ((below_drewN HBL.out nq).trans (hb2.mono (by simp)))
  have HR2 := Lib.hid ((hb2.block w.heap.size (by simp)).trans HRR.out)
  clear hb2 hv2 hcn
  have hlt := lt_of_heap HR2.out
  generalize hok : (canonF s.data.toList).isSome = ok at *
  have HOK := Lib.hid hok
  clear hok
  have HR3 : Hid ((w2.alloc (.cells #[.int .i64 s1, .bool b1, .slice a1 n1 c1] 58)).heap[w.heap.size]? = some (.cells #[.int .i64 0, .bool false, .slice none 0 0, .int .i64 0, .bool false, .slice none 0 0] 63 (0, 0))) := Lib.hid ((Below.heap_alloc _ _ _ hlt).trans HR2.out)
  obtain ⟨⟨r0, r1, r2, r3, r4, r5⟩, fr⟩ := ResR.cells HR2.out
  cases ok
  · have hn : canonF s.data.toList = none := by have := HOK.out; cases h : canonF s.data.toList with | none => rfl | some z => rw [h] at this; cases this
    have HZ : Hid (ratF s.data.toList = none) := Lib.hid (by rw [HF.out, hn]; rfl)
    have HV3 : Hid (IV w2 (.agg #[.int .i64 s1, .bool b1, .slice a1 n1 c1]) ((0 : Rat)).num) := Lib.hid (by have := HV2.out; rw [hn] at this; exact this)
    clear hn
    go_wp2_with fail
    exact end_rbA Tryz.results74 rfl rfl rfl HR2.out HV3.out (zeroIV _) HB2.out (Nat.le_refl _) (fun w3 v h1 h2 => ⟨v, by rw [HZ.out]; rfl, by rw [HZ.out]; exact h1, h2⟩)
  · obtain ⟨z, hn⟩ : ∃ z, canonF s.data.toList = some z := by have := HOK.out; cases h : canonF s.data.toList with | none => rw [h] at this; cases this | some z => exact ⟨z, rfl⟩
    have HZ : Hid (ratF s.data.toList = some (z : Rat)) := Lib.hid (by rw [HF.out, hn]; rfl)
    have HV3 : Hid (IV w2 (.agg #[.int .i64 s1, .bool b1, .slice a1 n1 c1]) ((z : Rat)).num) := Lib.hid (by have := HV2.out; rw [hn] at this; rw [Rat.num_intCast]; exact this)
    have HD3 : Hid (denI (z : Rat) = 0) := Lib.hid (by unfold denI; rw [if_pos (Rat.den_intCast z)])
    clear hn
    go_wp2_with fail
    exact end_rbA Tryz.results74 rfl rfl rfl HR2.out HV3.out (by rw [HD3.out]; exact zeroIV _) HB2.out (Nat.le_refl _) (fun w3 v h1 h2 => ⟨v, by rw [HZ.out]; rfl, by rw [HZ.out]; exact h1, h2⟩)
end
end Go.Proofs.YtgehimcngljmnaaGreatDoor

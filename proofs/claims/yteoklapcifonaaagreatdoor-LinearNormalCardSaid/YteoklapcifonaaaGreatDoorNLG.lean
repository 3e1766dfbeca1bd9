/- Linear expressions: numbers by Must and One, the test on 0, the order of names. -/
import Derived.Test.YteoklapcifonaaaGreatDoorNLA
import Derived.Test.YteoklapcifonaaaGreatDoorNNT
import Derived.Deep.QuietTactic
import Derived.Lib.Hide
import Derived.Below
open Go.Lib (hid)
namespace Nmx
theorem DS.one {d : Nat} (h : 0 < d) : DS d 1 := DS.int (z := 1) (Nat.one_lt_pow (by omega) (by omega))
end Nmx
namespace Go.Proofs.YteoklapcifonaaaGreatDoor
open Go.RowKit Nmx
open Go.Lib (compareBytes)
section
set_option maxRecDepth 100000
set_option maxHeartbeats 4000000
theorem mustT {d : Nat} {q : Rat} (hq : DS d q) (hd : d ≤ 3000) (W : World) (h : Env W) : Calls Tryz.prog 56 #[.string (TX q)] W (GetsQ q W) := by
 have hb0 : Below W.heap.size W (W.alloc (.cells #[.int .i64 0, .bool false, .slice none 0 0, .int .i64 0, .bool false, .slice none 0 0] 85)) := (Below.refl _ _).alloc (Nat.le_refl _) _;have hpa := parseT hq hd _ (h.far hb0);have HB0 := hid hb0;have HR0 := hid (heap_alloc_new W (.cells #[.int .i64 0, .bool false, .slice none 0 0, .int .i64 0, .bool false, .slice none 0 0] 85));clear h hq hb0;generalize TX q = tq at *
 go_enter Tryz.func56, Tryz.ntmps56
 go_wp2_with fail
 refine hpa.mono ?_;rintro e w1 ⟨v1, rfl, hv1, hb1⟩;have hsz := hb1.size;obtain ⟨s1, b1, a1, n1, c1, s2, b2, a2, n2, c2, rfl, i1, i2⟩ := aR hv1;have hal : Below w1.heap.size w1 (w1.alloc (.cells #[.int .i64 s1, .bool b1, .slice a1 n1 c1, .int .i64 s2, .bool b2, .slice a2 n2 c2] 85)) := (Below.refl _ _).alloc (Nat.le_refl _) _;have hR := (hal.block _ (ab ((hb1.block _ (ab HR0.out)).trans HR0.out))).trans ((hb1.block _ (ab HR0.out)).trans HR0.out);have HR := hid hR;have HI1 := hid (i1.far hal);have HI2 := hid (i2.far hal);have HB := hid ((HB0.out.trans (hb1.mono HB0.out.size)).alloc (by have := HB0.out.size; omega) (.cells #[.int .i64 s1, .bool b1, .slice a1 n1 c1, .int .i64 s2, .bool b2, .slice a2 n2 c2] 85));have r0 := aa hR 0;have r1 := aa hR 1;have r2 := aa hR 2;have r3 := aa hR 3;have r4 := aa hR 4;have r5 := aa hR 5;have fr := fun i => ah hR i
 have hlt : W.heap.size < w1.heap.size := by simp at hsz; omega
 have HN := hid (heap_alloc_new w1 (.cells #[.int .i64 s1, .bool b1, .slice a1 n1 c1, .int .i64 s2, .bool b2, .slice a2 n2 c2] 85));clear hv1 hb1 hpa i1 i2 hal hR hsz r0 r1 r2 r3 r4 r5 fr
 go_upto_region 2 with fail
 generalize w1.alloc (.cells #[.int .i64 s1, .bool b1, .slice a1 n1 c1, .int .i64 s2, .bool b2, .slice a2 n2 c2] 85) = w2 at *;generalize w1.heap.size = R at *;have r0 := aa HR.out 0;have r1 := aa HR.out 1;have r2 := aa HR.out 2;have r3 := aa HR.out 3;have r4 := aa HR.out 4;have r5 := aa HR.out 5;have fr := fun i => ah HR.out i
 have k0 := aa HN.out 0;have k1 := aa HN.out 1;have k2 := aa HN.out 2;have k3 := aa HN.out 3;have k4 := aa HN.out 4;have k5 := aa HN.out 5
 go_wp2
 exact end_rat Tryz.results56 rfl rfl HR.out HI1.out HI2.out HB.out (Nat.le_refl _)
theorem ratIsZero_any (v : Value) (q : Rat) (w : World) (hv : RV w v q) : Calls Tryz.prog 99 #[v] w fun e w' => e = .returned (.bool (decide (q.num = 0))) ∧ Below w.heap.size w w' := by
 obtain ⟨s1, b1, a1, n1, c1, s2, b2, a2, n2, c2, rfl, i1, i2⟩ := aR hv;have hal : Below w.heap.size w (w.alloc (.cells #[.int .i64 s1, .bool b1, .slice a1 n1 c1, .int .i64 s2, .bool b2, .slice a2 n2 c2] 85)) := (Below.refl _ _).alloc (Nat.le_refl _) _;have hz := isZero_any _ q.num _ (i1.far hal);have HB := hid hal;obtain ⟨z, hqz⟩ : ∃ z, q.num = z := ⟨_, rfl⟩
 rw [hqz] at hz ⊢;clear hv i1 i2 hal hqz
 go_enter Tryz.func99, Tryz.ntmps99
 go_wp2_with fail
 refine hz.mono ?_;rintro e w1 ⟨rfl, hb1⟩;have HB1 := hid (HB.out.trans (hb1.mono HB.out.size));clear hb1 hz
 go_wp2
 go_ret
 exact ⟨rfl, HB1.out⟩
theorem cmpStr_any (a b : ByteArray) (w : World) : Calls Tryz.prog 145 #[.string a, .string b] w fun e w' => e = .returned (.int .i64 (compareBytes a.data.toList b.data.toList)) ∧ w' = w := by
 go_enter Tryz.func145, Tryz.ntmps145
 go_wp2
 rw [run_callFunc_extern Tryz.func169 (by kernel_rfl) (by kernel_rfl) (by kernel_rfl) (e := Extern.BytealgCompare.compare) (by kernel_rfl), Lib.run_compareString];simp only [Result.andThen];rw [Oper.upon_value]
 go_wp2
 go_ret
 exact ⟨rfl, rfl⟩
theorem strCmp_any (a b : ByteArray) (w : World) : Calls Tryz.prog 101 #[.string a, .string b] w fun e w' => e = .returned (.int .i64 (compareBytes a.data.toList b.data.toList)) ∧ w' = w := by
 have hc := cmpStr_any a b w
 go_enter Tryz.func101, Tryz.ntmps101
 go_wp2_with fail
 refine hc.mono ?_;rintro e w1 ⟨rfl, hw⟩;obtain rfl := hw.symm
 go_wp2
 go_ret
 exact ⟨rfl, rfl⟩
theorem isNumeric_any (s : Int) (w : World) (hs : s = 2 ∨ s = 3) : Calls Tryz.prog 70 #[.int .i64 s] w fun e w' => e = .returned (.bool true) ∧ w' = w := by
 rcases hs with rfl | rfl
 iterate 2
  · go_enter Tryz.func70, Tryz.ntmps70
    go_wp2
    go_ret
    exact ⟨rfl, rfl⟩
end
end Go.Proofs.YteoklapcifonaaaGreatDoor
/- Linear expressions in memory. -/
namespace Go.Proofs.YteoklapcifonaaaGreatDoor
open Go.RowKit Nmx
open Go.Lib (compareBytes)
/-- a slice of coefficients -/
structure CSl (w : World) (ao : Option Addr) (g off cap : Nat) (cs : List (List UInt8 × Rat)) : Prop where
 le : cs.length ≤ cap
 most : cap ≤ 9223372036854775807
 ad : 0 < cap → ao = some ⟨g, off, none⟩
 nm : ∀ i (h : i < cs.length), w.cell? ⟨g, off + i * 2, none⟩ = some (.string ⟨cs[i].1.toArray⟩)
 nu : ∀ i (h : i < cs.length), w.cell? ⟨g, off + i * 2 + 1, none⟩ = some (.string (TX cs[i].2))
theorem CSl.far {w w' : World} {ao : Option Addr} {g off cap : Nat} {cs : List (List UInt8 × Rat)} (h : CSl w ao g off cap cs) (hb : Below w.heap.size w w') : CSl w' ao g off cap cs :=
 ⟨h.le, h.most, h.ad, fun i hi => (hb.cell (World.block_lt_of_cell? _ _ (h.nm i hi))).trans (h.nm i hi), fun i hi => (hb.cell (World.block_lt_of_cell? _ _ (h.nu i hi))).trans (h.nu i hi)⟩
theorem less_of : ∀ a b : List UInt8, ltB a b → Op.bytesLess a b = true
 | [], [], h => by unfold ltB compareBytes at h; cases h
 | _ :: _, [], h => by unfold ltB compareBytes at h; cases h
 | [], _ :: _, _ => rfl
 | x :: a, y :: b, h => by
   unfold Op.bytesLess;unfold ltB compareBytes at h
   by_cases h1 : x < y
   · simp [h1]
   · rw [if_neg h1] at h
     by_cases h2 : y < x
     · rw [if_pos h2] at h; cases h
     · rw [if_neg h2] at h;have hxy : x = y := UInt8.le_antisymm (UInt8.not_lt.1 h2) (UInt8.not_lt.1 h1);have := less_of a b h
       simp [hxy, this]
theorem less_ba {a b : List UInt8} (h : ltB a b) : Op.bytesLess (⟨a.toArray⟩ : ByteArray).toList (⟨b.toArray⟩ : ByteArray).toList = true := by
 rw [ByteArray.toList_eq, ByteArray.toList_eq]; exact less_of a b h
theorem can_at {l : List (List UInt8 × Rat)} (h : Can ltB l) : ∀ i (hi : i + 1 < l.length), ltB l[i].1 l[i + 1].1 := by
 induction l with
 | nil => intro i hi; exact absurd hi (by simp)
 | cons x l ih =>
   obtain ⟨n, p⟩ := x;intro i hi;cases i with
   | zero => exact h.2.1 _ (List.getElem_mem _)
   | succ i => exact ih h.2.2 i (by rw [List.length_cons] at hi; omega)
theorem can_nz {l : List (List UInt8 × Rat)} (h : Can ltB l) : ∀ x ∈ l, x.2 ≠ 0 := by
 induction l with
 | nil => exact fun x hx => (List.not_mem_nil hx).elim
 | cons y l ih =>
   intro x hx;rcases List.mem_cons.1 hx with h1 | h1
   · rw [h1]; exact h.1
   · exact ih h.2.2 x h1
/-- the names of the drawn expressions -/
def nm4 : List (List UInt8) := [[117], [118], [120], [121]]
class Nms where
 U : List (List UInt8)
 len : U.length ≤ 8
instance four : Nms := ⟨nm4, by decide⟩
section
set_option maxRecDepth 100000
set_option maxHeartbeats 4000000
theorem isName_4 (c : UInt8) (hc : c = 117 ∨ c = 118 ∨ c = 120 ∨ c = 121) (w : World) : Calls Tryz.prog 69 #[.string ⟨#[c]⟩] w fun e w' => e = .returned (.bool true) ∧ w' = w := by
 rcases hc with rfl | rfl | rfl | rfl
 all_goals
  go_enter Tryz.func69, Tryz.ntmps69
  go_wp2
  go_loop [3] (fun i => i = .int .i64 0 ∨ i = .int .i64 1) (fun i => 1 - (intOf i).toNat)
  case atStart => exact .inl rfl
  case round =>
   rcases hrel with rfl | rfl
   · go_wp2
     exact Nat.lt_of_lt_of_le (show (1 - (intOf (.int .i64 1)).toNat) < 1 from by decide) (by decide)
   · go_wp2
     go_ret
     exact ⟨rfl, rfl⟩
theorem isName_nm (l : List UInt8) (h : l ∈ nm4) (w : World) : Calls Tryz.prog 69 #[.string ⟨l.toArray⟩] w fun e w' => e = .returned (.bool true) ∧ w' = w := by
 simp only [nm4, List.mem_cons, List.not_mem_nil, or_false] at h;rcases h with rfl | rfl | rfl | rfl
 · exact isName_4 117 (.inl rfl) w
 · exact isName_4 118 (.inr (.inl rfl)) w
 · exact isName_4 120 (.inr (.inr (.inl rfl))) w
 · exact isName_4 121 (.inr (.inr (.inr rfl))) w
theorem numValidE {d : Nat} {q : Rat} (hq : DS d q) (hd : d ≤ 3000) (W : World) (h : Env W) : Calls Tryz.prog 54 #[.string (TX q)] W fun e w' => e = .returned (.bool true) ∧ Below W.heap.size W w' := by
 have hs := DS.sz hq;have hc := numValid_any (TX q) W (by omega) h (gcdAt_any (by rw [size_data]; omega));rw [tx_ratF] at hc;exact hc
/-- coefficients of drawn expressions -/
structure Good [Nms] (d : Nat) (cs : List (List UInt8 × Rat)) : Prop where
 can : Can ltB cs
 nm : ∀ x ∈ cs, x.1 ∈ Nms.U
 ds : ∀ x ∈ cs, DS d x.2
end
end Go.Proofs.YteoklapcifonaaaGreatDoor
/- A drawn region whose operations yield one value in every world of a class: the steps of its one walk. -/
namespace Go.Proofs.YteoklapcifonaaaGreatDoor
/-- the lexical walk, shut: 'refine' looks aI the bare one -/
structure ShutQ (P : Program) (ops : Array Oper) (C : World → Prop) (Q : Act → Prop) (l : List Oper) (a : Act) : Prop where
 go : wpQuiet P ops C Q l a
section
variable {P : Program} {ops : Array Oper} {C : World → Prop} {Q : Act → Prop} {a : Act} {o : Oper} {rest : List Oper}
theorem q_nil (h : Q a) : ShutQ P ops C Q [] a := ⟨h⟩
/-- its guard passes it over -/
theorem q_skip (hw : Region.wanted o (yielded ops a.tmps) = false) (h : ShutQ P ops C Q rest (a.put o.dst undef)) : ShutQ P ops C Q (o :: rest) a := by
 refine ⟨?_⟩;unfold wpQuiet;rw [if_neg (by rw [hw]; exact Bool.false_ne_true)];exact h.go
/-- it yields v, whatever the world of the class -/
theorem q_take {v : Value} (hw : Region.wanted o (yielded ops a.tmps) = true) (hv : ∀ w, C w → o.quietAt P a C w v) (h : ShutQ P ops C Q rest (a.put o.dst v)) : ShutQ P ops C Q (o :: rest) a := by
 refine ⟨?_⟩;unfold wpQuiet;rw [if_pos hw];exact ⟨v, hv, h.go⟩
/-- the region, at a class of one's own -/
theorem q_region {id : Nat} {Q : Exit → Act → World → Prop} {w : World} {l : List Oper} (C : World → Prop) (hm : P.follows .mixedOrders = true) (hB : Region.lexB .any l.toArray = true) (hC : C w.drew)
    (h : ShutQ P l.toArray C (fun a' => ∀ w', C w' → Q .normal a' w') l a) : (Code.region id l.toArray true).wp P Q a w :=
 wp_region_quiet (C := C) hm hB hC (by simpa using h.go)
end
end Go.Proofs.YteoklapcifonaaaGreatDoor
/- linear.Valid at drawn expressions. -/
namespace Go.Proofs.YteoklapcifonaaaGreatDoor
open Go.RowKit Nmx
open Go.Lib (compareBytes)
section
set_option maxRecDepth 100000
set_option maxHeartbeats 4000000
theorem linValid_ok {d : Nat} (w : World) (s : Int) (cs : List (List UInt8 × Rat)) (c : Rat) (ao : Option Addr) (g off cap : Nat) (hC : CSl w ao g off cap cs) (hs : s = 2 ∨ s = 3) (hc : DS d c) (hg : Good d cs) (hd : d ≤ 3000) (hE : Env w) :
    Calls Tryz.prog 29 #[.agg #[.int .i64 s, .slice ao cs.length cap, .string (TX c)]] w fun e w' => e = .returned (.bool true) ∧ Below w.heap.size w w' := by
 have hle := hC.le;have hmost := hC.most;have HH := hid hC;have HE := hid hE;have HG := hid hg;have hvc := fun W hW => numValidE hc hd W hW
 have hnu := fun W => isNumeric_any s W hs
 have HB0 : Hid (Below w.heap.size w (w.alloc (.cells #[.int .i64 s, .slice ao cs.length cap, .string (TX c)] 26))) := hid ((Below.refl _ _).alloc (Nat.le_refl _) _);have HX0 := hid (heap_alloc_new w (.cells #[.int .i64 s, .slice ao cs.length cap, .string (TX c)] 26));obtain ⟨n, hn⟩ : ∃ n, cs.length = n := ⟨_, rfl⟩
 have HN := hid hn;rw [hn] at hle HB0 HX0 ⊢;clear hC hE hg hn hc hs;generalize TX c = tc at *
 go_enter Tryz.func29, Tryz.ntmps29
 go_wp2_with fail
 go_loopg [8] n (fun gh iv wr => ∃ k : Nat, gh = n - k ∧ k ≤ n ∧ iv = .int .i64 k ∧ wr.heap[w.heap.size]? = some (.cells #[.int .i64 s, .slice ao n cap, .string tc] 26 (0, 0)) ∧ Below w.heap.size w wr)
 case atStart => exact ⟨0, rfl, Nat.zero_le _, rfl, HX0.out, HB0.out⟩
 case round =>
  obtain ⟨k, rfl, hk, rfl, hx, hb⟩ := hrel;have HX := hid hx;have HB := hid hb;have x0 := aa hx 0;have x1 := aa hx 1;have x2 := aa hx 2;clear hx hb
  by_cases hlt : k < n
  · have had := HH.out.ad (by omega);subst had;have hlt' : k < cs.length := by rw [HN.out]; exact hlt
    have c0 := (HH.out.far HB.out).nm k hlt';have c1 := (HH.out.far HB.out).nu k hlt';have hin := fun W => isName_nm cs[k].1 (HG.out.nm _ (List.getElem_mem hlt')) W
    have hnv := fun W hW => numValidE (HG.out.ds _ (List.getElem_mem hlt')) hd W hW
    have hnz : ((TX cs[k].2).toList == [48]) = false := by
     rw [bg];exact decide_eq_false (fun e => can_nz HG.out.can _ (List.getElem_mem hlt') (Rat.num_eq_zero.1 e))
    obtain ⟨t0, ht0⟩ : ∃ t0 : ByteArray, ⟨cs[k].1.toArray⟩ = t0 := ⟨_, rfl⟩
    rw [ht0] at c0 hin;have HT0 := hid ht0;clear ht0;generalize TX cs[k].2 = t1 at *;have hal : Below wr.heap.size wr (wr.alloc (.cells #[.string t0, .string t1] 79)) := (Below.refl _ _).alloc (Nat.le_refl _) _;have HN0 := hid (heap_alloc_new wr (.cells #[.string t0, .string t1] 79));have HXa := hid ((hal.block _ (ab HX.out)).trans HX.out);have HBa := hid (HB.out.trans (hal.mono HB.out.size));clear hal x0 x1 x2
    go_upto_region 4 with fail
    generalize wr.alloc (.cells #[.string t0, .string t1] 79) = wa at *;generalize wr.heap.size = R at *;have x0 := aa HXa.out 0;have x1 := aa HXa.out 1;have x2 := aa HXa.out 2;have y0 := aa HN0.out 0;have y1 := aa HN0.out 1;have C0 : ∀ W, Below wa.heap.size wa W → W.cell? ⟨R, 0, none⟩ = some (.string t0) := fun W hW => (hW.cell (World.block_lt_of_cell? _ _ y0)).trans y0
    have C1 : ∀ W, Below wa.heap.size wa W → W.cell? ⟨R, 1, none⟩ = some (.string t1) := fun W hW => (hW.cell (World.block_lt_of_cell? _ _ y1)).trans y1
    have C2 : ∀ W, Below wa.heap.size wa W → W.cell? ⟨w.heap.size, 1, none⟩ = some (.slice (some ⟨g, off, none⟩) n cap) := fun W hW => (hW.cell (World.block_lt_of_cell? _ _ x1)).trans x1
    have CE : ∀ W, Below wa.heap.size wa W → Env W := fun W hW => HE.out.far (HBa.out.trans (hW.mono HBa.out.size))
    have HC0 := hid C0;have HC1 := hid C1;have HC2 := hid C2;have HCE := hid CE;clear C0 C1 C2 CE x0 x1 x2 y0 y1
    by_cases hk0 : k = 0
    · subst hk0;refine q_region (fun W => Below wa.heap.size wa W) (by kernel_rfl) (by kernel_rfl) (Below.refl _ _).drew ?_
      repeat (first
       | (refine q_skip ?_ ?_
          · (go_simp; done)
          simp only [Act.put, List.setIfInBounds_toArray, List.set_cons_zero, List.set_cons_succ])
       | (refine q_take (v := ?_) ?_ ?_ ?_
          rotate_left
          · (go_simp; done)
          · intro W hW;have z0 := HC0.out W hW;have z1 := HC1.out W hW;have z2 := HC2.out W hW
            go_simp
            first
            | with_reducible rfl
            | (go_at_call 69; refine (hin W).mono ?_; rintro e u ⟨rfl, rfl⟩; refine ⟨?_, hW⟩; with_reducible rfl)
            | (go_at_call 54; refine (hnv W (HCE.out W hW)).mono ?_; rintro e u ⟨rfl, hb⟩; refine ⟨?_, hW.trans (hb.mono hW.size)⟩; with_reducible rfl)
          simp only [Act.put, List.setIfInBounds_toArray, List.set_cons_zero, List.set_cons_succ]))
      refine q_nil ?_;intro w2 hw2;have HB2 := hid (HBa.out.trans (hw2.mono HBa.out.size));have HX2 := hid ((hw2.block _ (ab HXa.out)).trans HXa.out);clear hw2
      go_wp2
      go_roundg (n - (0 + 1))
      case rel => exact ⟨0 + 1, rfl, by omega, by go_num, HX2.out, HB2.out⟩
      case measure => omega
    · obtain ⟨j, rfl⟩ : ∃ j, k = j + 1 := ⟨k - 1, by omega⟩
      have p0 := (HH.out.far HBa.out).nm j (by rw [HN.out]; omega);have hls := less_ba (can_at HG.out.can j (by rw [HN.out]; omega));rw [HT0.out] at hls;generalize (⟨cs[j].1.toArray⟩ : ByteArray) = tp at *;have C3 : ∀ W, Below wa.heap.size wa W → W.cell? ⟨g, off + j * 2, none⟩ = some (.string tp) := fun W hW => (hW.cell (World.block_lt_of_cell? _ _ p0)).trans p0
      have HC3 := hid C3;clear C3 p0;have d1 : decide ((0 : Int) < ((j + 1 : Nat) : Int)) = true := decide_eq_true (by omega);have hw2 : IntKind.i64.wrap ((j : Int) + 1 - 1) = (j : Int) := by rw [IntKind.wrap_i64]; omega
      have hw1 : IntKind.i64.wrap (((j + 1 : Nat) : Int) - 1) = (j : Int) := by rw [IntKind.wrap_i64]; omega
      have hw3 : IntKind.i64.wrap (j : Int) = (j : Int) := by rw [IntKind.wrap_i64]; omega
      have e3 : (0 : Int) ≤ (j : Int) := by omega
      have e4 : (j : Int) < (n : Int) := by omega
      have e5 : (0 : Int) ≤ ((j + 1 : Nat) : Int) - 1 := by omega
      have e6 : ((j + 1 : Nat) : Int) - 1 < (n : Int) := by omega
      refine q_region (fun W => Below wa.heap.size wa W) (by kernel_rfl) (by kernel_rfl) (Below.refl _ _).drew ?_
      repeat (first
       | (refine q_skip ?_ ?_
          · (go_simp; done)
          simp only [Act.put, List.setIfInBounds_toArray, List.set_cons_zero, List.set_cons_succ])
       | (refine q_take (v := ?_) ?_ ?_ ?_
          rotate_left
          · (go_simp; done)
          · intro W hW;have z0 := HC0.out W hW;have z1 := HC1.out W hW;have z2 := HC2.out W hW;have z3 := HC3.out W hW
            go_simp
            first
            | with_reducible rfl
            | (go_at_call 69; refine (hin W).mono ?_; rintro e u ⟨rfl, rfl⟩; refine ⟨?_, hW⟩; with_reducible rfl)
            | (go_at_call 54; refine (hnv W (HCE.out W hW)).mono ?_; rintro e u ⟨rfl, hb⟩; refine ⟨?_, hW.trans (hb.mono hW.size)⟩; with_reducible rfl)
          simp only [Act.put, List.setIfInBounds_toArray, List.set_cons_zero, List.set_cons_succ]))
      refine q_nil ?_;intro w2 hw2;have HB2 := hid (HBa.out.trans (hw2.mono HBa.out.size));have HX2 := hid ((hw2.block _ (ab HXa.out)).trans HXa.out);clear hw2
      go_wp2
      go_roundg (n - (j + 1 + 1))
      case rel => exact ⟨j + 1 + 1, rfl, by omega, by go_num, HX2.out, HB2.out⟩
      case measure => omega
  · obtain rfl : k = n := by omega
    go_wp2_with fail
    refine (hnu _).mono ?_;rintro e u ⟨rfl, hw⟩;obtain rfl := hw.symm;have hv2 := hvc wr (HE.out.far HB.out)
    go_wp2_with fail
    refine hv2.mono ?_;rintro e u ⟨rfl, hb2⟩;have HB2 := hid (HB.out.trans (hb2.mono HB.out.size));clear hb2
    go_wp2
    go_ret
    exact ⟨rfl, HB2.out⟩
end
end Go.Proofs.YteoklapcifonaaaGreatDoor

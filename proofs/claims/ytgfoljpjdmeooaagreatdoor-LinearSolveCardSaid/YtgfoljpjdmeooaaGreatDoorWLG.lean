/- A drawn region whose operations yield one value in every world of a class: the steps of its one walk. -/
import Derived.Deep.QuietTactic
import Derived.Lib.Hide
import Derived.Below
import Derived.Test.YtgfoljpjdmeooaaGreatDoorWLD
namespace Go.Proofs.YtgfoljpjdmeooaaGreatDoor

/-- the lexical walk, shut: 'refine' looks behind the bare one -/
structure ShutQ (P : Program) (ops : Array Oper) (C : World → Prop) (Q : Act → Prop) (l : List Oper) (a : Act) : Prop where
  go : wpQuiet P ops C Q l a
section
variable {P : Program} {ops : Array Oper} {C : World → Prop} {Q : Act → Prop} {a : Act} {o : Oper} {rest : List Oper}
theorem q_nil (h : Q a) : ShutQ P ops C Q [] a := ⟨h⟩
/-- its guard passes it over -/
theorem q_skip (hw : Region.wanted o (yielded ops a.tmps) = false) (h : ShutQ P ops C Q rest (a.put o.dst undef)) : ShutQ P ops C Q (o :: rest) a := by
  refine ⟨?_⟩;unfold wpQuiet;rw [if_neg (by rw [hw]; exact Bool.false_ne_true)];exact h.go
/-- it yields v, whatever the world of the class -/
theorem q_take {v : Value} (hw : Region.wanted o (yielded ops a.tmps) = true) (hv : ∀ w, C w → o.quietAt P a C w v) (h : ShutQ P ops C Q rest (a.put o.dst v)) : ShutQ P ops C Q (o :: rest) a := by
  refine ⟨?_⟩;unfold wpQuiet;rw [if_pos hw];exact ⟨v, hv, h.go⟩
/-- the region, at a class of one's own -/
theorem q_region {id : Nat} {Q : Exit → Act → World → Prop} {w : World} {l : List Oper} (C : World → Prop) (hm : P.follows .mixedOrders = true) (hB : Region.lexB .any l.toArray = true) (hC : C w.drew)
    (h : ShutQ P l.toArray C (fun a' => ∀ w', C w' → Q .normal a' w') l a) : (Code.region id l.toArray true).wp P Q a w :=
  wp_region_quiet (C := C) hm hB hC (by simpa using h.go)
end
end Go.Proofs.YtgfoljpjdmeooaaGreatDoor
/- linear.Valid at drawn expressions. -/
namespace Go.Proofs.YtgfoljpjdmeooaaGreatDoor
open Go.RowKit Nmx
open Go.Lib (compareBytes)

section
set_option maxRecDepth 100000
set_option maxHeartbeats 4000000
theorem linValid_ok {d : Nat} (w : World) (s : Int) (cs : List (List UInt8 × Rat)) (c : Rat) (ao : Option Addr) (g off cap : Nat) (hC : CSl w ao g off cap cs) (hs : s = 2 ∨ s = 3) (hc : DS d c) (hg : Good d cs) (hd : d ≤ 3000) (hE : Env w) :
    Calls Tryz.prog 25 #[.agg #[.int .i64 s, .slice ao cs.length cap, .string (TX c)]] w fun e w' => e = .returned (.bool true) ∧ Below w.heap.size w w' := by
  have hle := hC.le;have hmost := hC.most;have HH := Lib.hid hC;have HE := Lib.hid hE;have HG := Lib.hid hg;have hvc := fun W hW => numValidE hc hd W hW
  have hnu := fun W => isNumeric_any s W hs
  have HB0 : Hid (Below w.heap.size w (w.alloc (.cells #[.int .i64 s, .slice ao cs.length cap, .string (TX c)] 26))) := Lib.hid ((Below.refl _ _).alloc (Nat.le_refl _) _);have HX0 := Lib.hid (heap_alloc_new w (.cells #[.int .i64 s, .slice ao cs.length cap, .string (TX c)] 26));obtain ⟨n, hn⟩ : ∃ n, cs.length = n := ⟨_, rfl⟩
  have HN := Lib.hid hn;rw [hn] at hle HB0 HX0 ⊢;clear hC hE hg hn hc hs;generalize TX c = tc at *
  go_enter Tryz.func25, Tryz.ntmps25
  go_wp2_with fail
  go_loopg [8] n (fun gh iv wr => ∃ k : Nat, gh = n - k ∧ k ≤ n ∧ iv = .int .i64 k ∧ wr.heap[w.heap.size]? = some (.cells #[.int .i64 s, .slice ao n cap, .string tc] 26 (0, 0)) ∧ Below w.heap.size w wr)
  case atStart => exact ⟨0, rfl, Nat.zero_le _, rfl, HX0.out, HB0.out⟩
  case round =>
    obtain ⟨k, rfl, hk, rfl, hx, hb⟩ := hrel;have HX := Lib.hid hx;have HB := Lib.hid hb;have x0 := heap_cell hx 0;have x1 := heap_cell hx 1;have x2 := heap_cell hx 2;clear hx hb
    by_cases hlt : k < n
    · have had := HH.out.ad (by omega);subst had;have hlt' : k < cs.length := by rw [HN.out]; exact hlt
      have c0 := (HH.out.far HB.out).nm k hlt';have c1 := (HH.out.far HB.out).nu k hlt';have hin := fun W => isName_nm cs[k].1 (HG.out.nm _ (List.getElem_mem hlt')) W
      have hnv := fun W hW => numValidE (HG.out.ds _ (List.getElem_mem hlt')) hd W hW
      have hnz : ((TX cs[k].2).toList == [48]) = false := by
        rw [tx_zero_test];exact decide_eq_false (fun e => can_nz HG.out.can _ (List.getElem_mem hlt') (Rat.num_eq_zero.1 e))
      obtain ⟨t0, ht0⟩ : ∃ t0 : ByteArray, ⟨cs[k].1.toArray⟩ = t0 := ⟨_, rfl⟩
      rw [ht0] at c0 hin;have HT0 := Lib.hid ht0;clear ht0;generalize TX cs[k].2 = t1 at *;have hal : Below wr.heap.size wr (wr.alloc (.cells #[.string t0, .string t1] 66)) := (Below.refl _ _).alloc (Nat.le_refl _) _;have HN0 := Lib.hid (heap_alloc_new wr (.cells #[.string t0, .string t1] 66));have HXa := Lib.hid ((hal.block _ (lt_of_heap HX.out)).trans HX.out);have HBa := Lib.hid (HB.out.trans (hal.mono HB.out.size));clear hal x0 x1 x2
      go_upto_region 4 with fail
      generalize wr.alloc (.cells #[.string t0, .string t1] 66) = wa at *;generalize wr.heap.size = R at *;have x0 := heap_cell HXa.out 0;have x1 := heap_cell HXa.out 1;have x2 := heap_cell HXa.out 2;have y0 := heap_cell HN0.out 0;have y1 := heap_cell HN0.out 1;have C0 : ∀ W, Below wa.heap.size wa W → W.cell? ⟨R, 0, none⟩ = some (.string t0) := fun W hW => (hW.cell (World.block_lt_of_cell? _ _ y0)).trans y0
      have C1 : ∀ W, Below wa.heap.size wa W → W.cell? ⟨R, 1, none⟩ = some (.string t1) := fun W hW => (hW.cell (World.block_lt_of_cell? _ _ y1)).trans y1
      have C2 : ∀ W, Below wa.heap.size wa W → W.cell? ⟨w.heap.size, 1, none⟩ = some (.slice (some ⟨g, off, none⟩) n cap) := fun W hW => (hW.cell (World.block_lt_of_cell? _ _ x1)).trans x1
      have CE : ∀ W, Below wa.heap.size wa W → Env W := fun W hW => HE.out.far (HBa.out.trans (hW.mono HBa.out.size))
      have HC0 := Lib.hid C0;have HC1 := Lib.hid C1;have HC2 := Lib.hid C2;have HCE := Lib.hid CE;clear C0 C1 C2 CE x0 x1 x2 y0 y1
      by_cases hk0 : k = 0
      · subst hk0;refine q_region (fun W => Below wa.heap.size wa W) (by kernel_rfl) (by kernel_rfl) (Below.refl _ _).drew ?_
        repeat (first
          | (refine q_skip ?_ ?_
             · (go_simp; done)
             simp only [Act.put, List.setIfInBounds_toArray, List.set_cons_zero, List.set_cons_succ])
          | (refine q_take (v := ?_) ?_ ?_ ?_
             rotate_left
             · (go_simp; done)
             · intro W hW;have z0 := HC0.out W hW;have z1 := HC1.out W hW;have z2 := HC2.out W hW
               go_simp
               first
               | with_reducible rfl
               | (go_at_call 56; refine (hin W).mono ?_; rintro e u ⟨rfl, rfl⟩; refine ⟨?_, hW⟩; with_reducible rfl)
               | (go_at_call 41; refine (hnv W (HCE.out W hW)).mono ?_; rintro e u ⟨rfl, hb⟩; refine ⟨?_, hW.trans (hb.mono hW.size)⟩; with_reducible rfl)
             simp only [Act.put, List.setIfInBounds_toArray, List.set_cons_zero, List.set_cons_succ]))
        refine q_nil ?_;intro w2 hw2;have HB2 := Lib.hid (HBa.out.trans (hw2.mono HBa.out.size));have HX2 := Lib.hid ((hw2.block _ (lt_of_heap HXa.out)).trans HXa.out);clear hw2
        go_wp2
        go_roundg (n - (0 + 1))
        case rel => exact ⟨0 + 1, rfl, by omega, by go_num, HX2.out, HB2.out⟩
        case measure => omega
      · obtain ⟨j, rfl⟩ : ∃ j, k = j + 1 := ⟨k - 1, by omega⟩
        have p0 := (HH.out.far HBa.out).nm j (by rw [HN.out]; omega);have hls := less_ba (can_at HG.out.can j (by rw [HN.out]; omega));rw [HT0.out] at hls;generalize (⟨cs[j].1.toArray⟩ : ByteArray) = tp at *;have C3 : ∀ W, Below wa.heap.size wa W → W.cell? ⟨g, off + j * 2, none⟩ = some (.string tp) := fun W hW => (hW.cell (World.block_lt_of_cell? _ _ p0)).trans p0
        have HC3 := Lib.hid C3;clear C3 p0;have d1 : decide ((0 : Int) < ((j + 1 : Nat) : Int)) = true := decide_eq_true (by omega);have hw2 : IntKind.i64.wrap ((j : Int) + 1 - 1) = (j : Int) := by rw [IntKind.wrap_i64]; omega
        have hw1 : IntKind.i64.wrap (((j + 1 : Nat) : Int) - 1) = (j : Int) := by rw [IntKind.wrap_i64]; omega
        have hw3 : IntKind.i64.wrap (j : Int) = (j : Int) := by rw [IntKind.wrap_i64]; omega
        have e3 : (0 : Int) ≤ (j : Int) := by omega
        have e4 : (j : Int) < (n : Int) := by omega
        have e5 : (0 : Int) ≤ ((j + 1 : Nat) : Int) - 1 := by omega
        have e6 : ((j + 1 : Nat) : Int) - 1 < (n : Int) := by omega
        refine q_region (fun W => Below wa.heap.size wa W) (by kernel_rfl) (by kernel_rfl) (Below.refl _ _).drew ?_
        repeat (first
          | (refine q_skip ?_ ?_
             · (go_simp; done)
             simp only [Act.put, List.setIfInBounds_toArray, List.set_cons_zero, List.set_cons_succ])
          | (refine q_take (v := ?_) ?_ ?_ ?_
             rotate_left
             · (go_simp; done)
             · intro W hW;have z0 := HC0.out W hW;have z1 := HC1.out W hW;have z2 := HC2.out W hW;have z3 := HC3.out W hW
               go_simp
               first
               | with_reducible rfl
               | (go_at_call 56; refine (hin W).mono ?_; rintro e u ⟨rfl, rfl⟩; refine ⟨?_, hW⟩; with_reducible rfl)
               | (go_at_call 41; refine (hnv W (HCE.out W hW)).mono ?_; rintro e u ⟨rfl, hb⟩; refine ⟨?_, hW.trans (hb.mono hW.size)⟩; with_reducible rfl)
             simp only [Act.put, List.setIfInBounds_toArray, List.set_cons_zero, List.set_cons_succ]))
        refine q_nil ?_;intro w2 hw2;have HB2 := Lib.hid (HBa.out.trans (hw2.mono HBa.out.size));have HX2 := Lib.hid ((hw2.block _ (lt_of_heap HXa.out)).trans HXa.out);clear hw2
        go_wp2
        go_roundg (n - (j + 1 + 1))
        case rel => exact ⟨j + 1 + 1, rfl, by omega, by go_num, HX2.out, HB2.out⟩
        case measure => omega
    · obtain rfl : k = n := by omega
      go_wp2_with fail
      refine (hnu _).mono ?_;rintro e u ⟨rfl, hw⟩;obtain rfl := hw.symm;have hv2 := hvc wr (HE.out.far HB.out)
      go_wp2_with fail
      refine hv2.mono ?_;rintro e u ⟨rfl, hb2⟩;have HB2 := Lib.hid (HB.out.trans (hb2.mono HB.out.size));clear hb2
      go_wp2
      go_ret
      exact ⟨rfl, HB2.out⟩
end
end Go.Proofs.YtgfoljpjdmeooaaGreatDoor

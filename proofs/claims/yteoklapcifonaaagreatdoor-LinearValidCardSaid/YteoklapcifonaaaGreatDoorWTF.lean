/- The reference's multiples of expressions: times. -/
import Derived.Test.YteoklapcifonaaaGreatDoorWLJ
import Derived.Test.YteoklapcifonaaaGreatDoorWLK
import Derived.Test.YteoklapcifonaaaGreatDoorWLG
import Derived.Test.YteoklapcifonaaaGreatDoorWTC
import Derived.Test.YteoklapcifonaaaGreatDoorWMC
namespace Go.Proofs.YteoklapcifonaaaGreatDoor
open Go.RowKit Nmx

/-- the boxes of times: the expression, the result -/
structure TB (w W : World) (s : Int) (a1 : Option Addr) (n1 c1 : Nat) (t1 : ByteArray) : Prop where
  a : W.heap[w.heap.size]? = some (.cells #[.int .i64 s, .slice a1 n1 c1, .string t1] 26 (0, 0))
  r : W.heap[w.heap.size + 1]? = some (.cells #[.int .i64 0, .slice none 0 0, .string ⟨#[]⟩] 26 (0, 0))
  bel : Below w.heap.size w W
/-- .. what is made in S -/
structure TS (w W : World) (s : Int) (a1 : Option Addr) (n1 c1 : Nat) (t1 tc : ByteArray) (S : Nat) (v v' : Value) (rs : List (List UInt8 × Rat)) : Prop where
  tb : TB w W s a1 n1 c1 t1
  hs : W.heap[S]? = some (.cells #[.int .i64 s, v, .string tc] 26 (0, 0))
  row : W.ownsRow (S + 1) 79 2 v' rs.length (flat rs)
  l1 : w.heap.size + 1 < S
section
variable {w W W' : World} {s : Int} {a1 : Option Addr} {n1 c1 : Nat} {t1 tc : ByteArray} {S : Nat} {v v' : Value} {rs : List (List UInt8 × Rat)}
theorem TB.far (h : TB w W s a1 n1 c1 t1) (hb : Below W.heap.size W W') : TB w W' s a1 n1 c1 t1 :=
  ⟨(hb.block _ (lt_of_heap h.a)).trans h.a, (hb.block _ (lt_of_heap h.r)).trans h.r, h.bel.trans (hb.mono h.bel.size)⟩
theorem TS.far (h : TS w W s a1 n1 c1 t1 tc S v v' rs) (hb : Below W.heap.size W W') : TS w W' s a1 n1 c1 t1 tc S v v' rs :=
  ⟨h.tb.far hb, (hb.block _ (lt_of_heap h.hs)).trans h.hs, row_same h.row fun g hg => hb.block _ (h.row.lt g hg).2, h.l1⟩
theorem TS.grow {x : List UInt8 × Rat} (h : TS w W s a1 n1 c1 t1 tc S v v rs) (hg : W.grownBy W' v.ownBlock) (hr : W'.ownsRow (S + 1) 79 2 v' (rs.length + 1) (flat rs ++ [.string ⟨x.1.toArray⟩, .string (TX x.2)])) : TS w W' s a1 n1 c1 t1 tc S v v' (rs ++ [x]) := by
  have h1 := h.l1;have hne : ∀ g, g ≤ S → some g ≠ v.ownBlock := fun g hgS e => by have := (h.row.lt g e.symm).1; omega
  refine ⟨⟨(hg.block _ (lt_of_heap h.tb.a) (hne _ (by omega))).trans h.tb.a, (hg.block _ (lt_of_heap h.tb.r) (hne _ (by omega))).trans h.tb.r, h.tb.bel.grown hg h.tb.bel.size fun g e => by have := (h.row.lt g e).1; omega⟩, (hg.block S (lt_of_heap h.hs) (hne S (Nat.le_refl _))).trans h.hs, ?_, h1⟩;rw [List.length_append, flat_append];exact hr
theorem TS.set (h : TS w W s a1 n1 c1 t1 tc S v v' rs) : TS w (W.setCell ⟨S, 1, none⟩ v') s a1 n1 c1 t1 tc S v' v' rs := by
  have h1 := h.l1;have hset : ∀ g, g ≠ S → (W.setCell ⟨S, 1, none⟩ v').heap[g]? = W.heap[g]? := fun g hgS => Below.heap_setCell _ _ _ _ hgS
  refine ⟨⟨(hset _ (by omega)).trans h.tb.a, (hset _ (by omega)).trans h.tb.r, h.tb.bel.setCell (show w.heap.size ≤ S by omega) _⟩, ?_, ?_, h1⟩
  · have := heap_setCell_same W S 1 _ _ v' h.hs;exact this
  · exact ownsRow_setCell_below h.row (a := ⟨S, 1, none⟩) (show S < S + 1 by omega) v'
end
end Go.Proofs.YteoklapcifonaaaGreatDoor
/- The reference's ValidLinear, ValidConstraint at expressions and constraints that are valid. -/
namespace Go.Proofs.YteoklapcifonaaaGreatDoor
open Go.RowKit Nmx

section
set_option maxRecDepth 100000
set_option maxHeartbeats 8000000
theorem refNumeric_any {s : Int} (hs : s = 2 ∨ s = 3) (w : World) : Calls Tryz.prog 71 #[.int .i64 s] w fun e w' => e = .returned (.bool true) ∧ w' = w := by
  rcases hs with rfl | rfl
  all_goals
    go_enter Tryz.func71, Tryz.ntmps71
    go_wp2
    go_ret
    exact ⟨rfl, rfl⟩
theorem nameF_nm : ∀ n ∈ nm4, nameF n = true := by decide +kernel
theorem refName_nm (n : List UInt8) (h : n ∈ nm4) (w : World) : Calls Tryz.prog 73 #[.string ⟨n.toArray⟩] w fun e w' => e = .returned (.bool true) ∧ Below w.heap.size w w' := by
  have := refName_any ⟨n.toArray⟩ w;rw [toList_mk, nameF_nm n h] at this;exact this
theorem refValidL {d : Nat} {w : World} {v : Value} {s : Int} {c : Rat} {cs : List (List UInt8 × Rat)} (h : LV w v s d c cs) (hs : s = 2 ∨ s = 3) (hd : d ≤ 3000) :
    Calls Tryz.prog 30 #[v] w fun e w' => e = .returned (.bool true) ∧ Below w.heap.size w w' := by
  obtain ⟨ao, g, off, cap, rfl, hC, -, hg, hc⟩ := h;have hle := hC.le;have hmost := hC.most;have HH := Lib.hid hC;have HG := Lib.hid hg;have hnu := fun W => refNumeric_any hs W
  have hvc := fun W => refValidT hc (by omega) W
  have HB0 : Hid (Below w.heap.size w (w.alloc (.cells #[.int .i64 s, .slice ao cs.length cap, .string (TX c)] 26))) := Lib.hid ((Below.refl _ _).alloc (Nat.le_refl _) _);have HX0 := Lib.hid (heap_alloc_new w (.cells #[.int .i64 s, .slice ao cs.length cap, .string (TX c)] 26));obtain ⟨n, hn⟩ : ∃ n, cs.length = n := ⟨_, rfl⟩
  have HN := Lib.hid hn;rw [hn] at hle HB0 HX0 ⊢;clear hC hg hn hc hs;generalize TX c = tc at *;have HNU := Lib.hid hnu;have HVC := Lib.hid hvc;clear hnu hvc
  go_enter Tryz.func30, Tryz.ntmps30
  go_wp2_with fail
  generalize w.alloc (.cells #[.int .i64 s, .slice ao n cap, .string tc] 26) = w1 at *;refine (HNU.out _).mono ?_;rintro e w2 ⟨rfl, rfl⟩;have x2 := heap_cell HX0.out 2
  go_wp2_with fail
  refine (HVC.out _).mono ?_;rintro e w3 ⟨rfl, hb⟩;have HB3 := Lib.hid (HB0.out.trans (hb.mono HB0.out.size));have HX3 := Lib.hid ((hb.block _ (lt_of_heap HX0.out)).trans HX0.out);clear hb x2 HB0 HX0;have x1 := heap_cell HX3.out 1
  go_wp2_with fail
  clear x1
  go_loopg [3] n (fun gh iv wr => ∃ k : Nat, gh = n - k ∧ k ≤ n ∧ iv = .int .i64 k ∧ wr.heap[w.heap.size]? = some (.cells #[.int .i64 s, .slice ao n cap, .string tc] 26 (0, 0)) ∧ Below w.heap.size w wr)
  case atStart => exact ⟨0, rfl, Nat.zero_le _, rfl, HX3.out, HB3.out⟩
  case round =>
    obtain ⟨k, rfl, hk, rfl, hx, hb⟩ := hrel;have HX := Lib.hid hx;have HB := Lib.hid hb;have x0 := heap_cell hx 0;have x1 := heap_cell hx 1;have x2 := heap_cell hx 2;clear hx hb HB3 HX3
    by_cases hlt : k < n
    · have had := HH.out.ad (by omega);subst had;have hlt' : k < cs.length := by rw [HN.out]; exact hlt
      have hlti : (k : Int) < (n : Int) := by omega
      have hki0 : (0 : Int) ≤ (k : Int) := by omega
      have y0 := (HH.out.far HB.out).nm k hlt';have y1 := (HH.out.far HB.out).nu k hlt';have hin := fun W => refName_nm cs[k].1 (HG.out.nm _ (List.getElem_mem hlt')) W
      have hnv := fun W => refValidT (HG.out.ds _ (List.getElem_mem hlt')) (by omega) W
      have hnz : ((TX cs[k].2).toList == [48]) = false := by
        rw [tx_zero_test];exact decide_eq_false (fun e => can_nz HG.out.can _ (List.getElem_mem hlt') (Rat.num_eq_zero.1 e))
      obtain ⟨t0, ht0⟩ : ∃ t0 : ByteArray, ⟨cs[k].1.toArray⟩ = t0 := ⟨_, rfl⟩
      rw [ht0] at y0 hin;have HT0 := Lib.hid ht0;clear ht0;generalize TX cs[k].2 = t1 at *
      go_wp2_with fail
      have C0 : ∀ W, Below wr.heap.size wr W → W.cell? ⟨g, off + k * 2, none⟩ = some (.string t0) := fun W hW => (hW.cell (World.block_lt_of_cell? _ _ y0)).trans y0
      have C1 : ∀ W, Below wr.heap.size wr W → W.cell? ⟨g, off + k * 2 + 1, none⟩ = some (.string t1) := fun W hW => (hW.cell (World.block_lt_of_cell? _ _ y1)).trans y1
      have C2 : ∀ W, Below wr.heap.size wr W → W.cell? ⟨w.heap.size, 1, none⟩ = some (.slice (some ⟨g, off, none⟩) n cap) := fun W hW => (hW.cell (World.block_lt_of_cell? _ _ x1)).trans x1
      have HC0 := Lib.hid C0;have HC1 := Lib.hid C1;have HC2 := Lib.hid C2;clear C0 C1 C2 x0 x1 x2 y0 y1
      by_cases hk0 : k = 0
      · subst hk0;refine q_region (fun W => Below wr.heap.size wr W) (by kernel_rfl) (by kernel_rfl) (Below.refl _ _).drew ?_
        repeat (first
          | (refine q_skip ?_ ?_
             · (go_simp; done)
             simp only [Act.put, List.setIfInBounds_toArray, List.set_cons_zero, List.set_cons_succ])
          | (refine q_take (v := ?_) ?_ ?_ ?_
             rotate_left
             · (go_simp; done)
             · intro W hW;have z0 := HC0.out W hW;have z1 := HC1.out W hW;have z2 := HC2.out W hW;rw [Nat.zero_mul, Nat.add_zero] at z0 z1
               go_simp
               first
               | with_reducible rfl
               | (go_at_call 73; refine (hin W).mono ?_; rintro e u ⟨rfl, hb⟩; refine ⟨?_, hW.trans (hb.mono hW.size)⟩; with_reducible rfl)
               | (go_at_call 72; refine (hnv W).mono ?_; rintro e u ⟨rfl, hb⟩; refine ⟨?_, hW.trans (hb.mono hW.size)⟩; with_reducible rfl)
             simp only [Act.put, List.setIfInBounds_toArray, List.set_cons_zero, List.set_cons_succ]))
        refine q_nil ?_;intro w2 hw2;have HB2 := Lib.hid (HB.out.trans (hw2.mono HB.out.size));have HX2 := Lib.hid ((hw2.block _ (lt_of_heap HX.out)).trans HX.out);clear hw2
        go_wp2
        go_roundg (n - (0 + 1))
        case rel => exact ⟨0 + 1, rfl, by omega, by go_num, HX2.out, HB2.out⟩
        case measure => omega
      · obtain ⟨j, hjk⟩ : ∃ j, k = j + 1 := ⟨k - 1, by omega⟩
        have hjl : j < cs.length := by rw [HN.out]; omega
        have p0 := (HH.out.far HB.out).nm j hjl;have hls := less_ba (can_at HG.out.can (i := j) (by rw [HN.out]; omega))
        have htk : (⟨(cs[j + 1]'(by rw [HN.out]; omega)).1.toArray⟩ : ByteArray) = t0 := by
          have := HT0.out;subst hjk;exact this
        rw [htk] at hls;obtain ⟨tp, htp⟩ : ∃ t : ByteArray, (⟨(cs[j]'hjl).1.toArray⟩ : ByteArray) = t := ⟨_, rfl⟩
        rw [htp] at p0 hls;have C3 : ∀ W, Below wr.heap.size wr W → W.cell? ⟨g, off + j * 2, none⟩ = some (.string tp) := fun W hW => (hW.cell (World.block_lt_of_cell? _ _ p0)).trans p0
        have HC3 := Lib.hid C3;have d1 : decide ((0 : Int) < (k : Int)) = true := decide_eq_true (by omega);have d0 : (0 : Int) < (k : Int) := by omega
        have d2 : 0 < k := by omega
        have d3 : decide (0 < k) = true := decide_eq_true d2;have hw1 : IntKind.i64.wrap ((k : Int) - 1) = (j : Int) := by rw [IntKind.wrap_i64]; omega
        have e3 : (0 : Int) ≤ (j : Int) := by omega
        have e4 : (j : Int) < (n : Int) := by omega
        clear C3 p0 htk htp hjl hjk;refine q_region (fun W => Below wr.heap.size wr W) (by kernel_rfl) (by kernel_rfl) (Below.refl _ _).drew ?_
        repeat (first
          | (refine q_skip ?_ ?_
             · (go_simp; done)
             simp only [Act.put, List.setIfInBounds_toArray, List.set_cons_zero, List.set_cons_succ])
          | (refine q_take (v := ?_) ?_ ?_ ?_
             rotate_left
             · (go_simp; done)
             · intro W hW;have z0 := HC0.out W hW;have z1 := HC1.out W hW;have z2 := HC2.out W hW;have z3 := HC3.out W hW
               go_simp
               first
               | with_reducible rfl
               | (go_at_call 73; refine (hin W).mono ?_; rintro e u ⟨rfl, hb⟩; refine ⟨?_, hW.trans (hb.mono hW.size)⟩; with_reducible rfl)
               | (go_at_call 72; refine (hnv W).mono ?_; rintro e u ⟨rfl, hb⟩; refine ⟨?_, hW.trans (hb.mono hW.size)⟩; with_reducible rfl)
             simp only [Act.put, List.setIfInBounds_toArray, List.set_cons_zero, List.set_cons_succ]))
        refine q_nil ?_;intro w2 hw2;have HB2 := Lib.hid (HB.out.trans (hw2.mono HB.out.size));have HX2 := Lib.hid ((hw2.block _ (lt_of_heap HX.out)).trans HX.out);clear hw2
        go_wp2
        go_roundg (n - (k + 1))
        case rel => exact ⟨k + 1, rfl, by omega, by go_num, HX2.out, HB2.out⟩
        case measure => omega
    · have hlti : ¬ ((k : Int) < (n : Int)) := by omega
      go_wp2
      go_ret
      exact ⟨rfl, HB.out⟩
end
end Go.Proofs.YteoklapcifonaaaGreatDoor
/- The reference's ValidConstraint at constraints that are valid. -/
namespace Go.Proofs.YteoklapcifonaaaGreatDoor
open Go.RowKit Nmx

end Go.Proofs.YteoklapcifonaaaGreatDoor

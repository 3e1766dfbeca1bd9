/- Expressions of any texts: the reference's ValidLinear. -/
import Derived.Test.YteoklapcifonaaaGreatDoorVHA
open Go.Lib (hid)
namespace Go.Proofs.YteoklapcifonaaaGreatDoor
open Go.RowKit Nmx
section
set_option maxRecDepth 100000
set_option maxHeartbeats 16000000
theorem refValidR {w : World} {s : Int} {ao : Option Addr} {g off cap : Nat} {rs : List (ByteArray × ByteArray)} {t : ByteArray} (hC : RSl w ao g off cap rs) (hS : Shrt rs t) :
    Calls Tryz.prog 30 #[.agg #[.int .i64 s, .slice ao rs.length cap, .string t]] w fun e w' => e = .returned (.bool (validR s rs t)) ∧ Below w.heap.size w w' := by
 have hle := hC.le;have hmost := hC.most;have HH := hid hC;have HSH := hid hS;have hvc := fun W => refValid_any t W (by have := hS.2.1; omega)
 have hnu := fun W => refNumeric_all s W
 have HFAIL0 : Hid (∀ i, i < rs.length → okAt rs i = false → validR s rs t = false) := hid fun i hi ho => validR_no hi ho
 have HYES0 : Hid ((∀ i, i < rs.length → okAt rs i = true) → validR s rs t = ((s == 2 || s == 3) && (ratF t.data.toList).isSome)) := hid validR_yes;have HB0 : Hid (Below w.heap.size w (w.alloc (.cells #[.int .i64 s, .slice ao rs.length cap, .string t] 26))) := hid ((Below.refl _ _).alloc (Nat.le_refl _) _);have HX0 := hid (heap_alloc_new w (.cells #[.int .i64 s, .slice ao rs.length cap, .string t] 26));obtain ⟨n, hn⟩ : ∃ n, rs.length = n := ⟨_, rfl⟩
 have HN := hid hn;obtain ⟨V, hV⟩ : ∃ V, validR s rs t = V := ⟨_, rfl⟩
 obtain ⟨bs, hbs⟩ : ∃ b, (s == 2 || s == 3) = b := ⟨_, rfl⟩
 obtain ⟨bt, hbt⟩ : ∃ b, (ratF t.data.toList).isSome = b := ⟨_, rfl⟩
 rw [hn, hV] at HFAIL0;rw [hn, hV, hbs, hbt] at HYES0;rw [hbs] at hnu;rw [hbt] at hvc;have HFAIL := hid HFAIL0.out;have HYES := hid HYES0.out;have HNU := hid hnu;have HVC := hid hvc;rw [hn] at hle HB0 HX0;rw [hn, hV];clear hC hS hn hvc hnu hV hbs hbt HFAIL0 HYES0
 go_enter Tryz.func30, Tryz.ntmps30
 go_wp2_with fail
 generalize w.alloc (.cells #[.int .i64 s, .slice ao n cap, .string t] 26) = w1 at *;refine (HNU.out _).mono ?_;rintro e w2 ⟨rfl, rfl⟩;cases bs with
 | false =>
   have hno : V = false := by
    by_cases h : ∀ i, i < n → okAt rs i = true
    · rw [HYES.out h]; rfl
    · obtain ⟨i, hi⟩ := Classical.not_forall.1 h;obtain ⟨h1, h2⟩ := Classical.not_imp.1 hi;exact HFAIL.out i h1 (Bool.eq_false_iff.2 h2)
   subst hno
   go_wp2
   go_ret
   exact ⟨rfl, HB0.out⟩
 | true =>
   have x2 := heap_cell HX0.out 2
   go_wp2_with fail
   refine (HVC.out _).mono ?_;rintro e w3 ⟨rfl, hb⟩;have HB3 := hid (HB0.out.trans (hb.mono HB0.out.size));have HX3 := hid ((hb.block _ (lt_of_heap HX0.out)).trans HX0.out);clear hb x2 HB0 HX0;cases bt with
   | false =>
     have hno : V = false := by
      by_cases h : ∀ i, i < n → okAt rs i = true
      · rw [HYES.out h]; rfl
      · obtain ⟨i, hi⟩ := Classical.not_forall.1 h;obtain ⟨h1, h2⟩ := Classical.not_imp.1 hi;exact HFAIL.out i h1 (Bool.eq_false_iff.2 h2)
     subst hno
     go_wp2
     go_ret
     exact ⟨rfl, HB3.out⟩
   | true =>
     have x1 := heap_cell HX3.out 1
     go_wp2_with fail
     clear x1
     go_loopg [3] n (fun gh iv wr => ∃ k : Nat, gh = n - k ∧ k ≤ n ∧ iv = .int .i64 k ∧ wr.heap[w.heap.size]? = some (.cells #[.int .i64 s, .slice ao n cap, .string t] 26 (0, 0)) ∧ Below w.heap.size w wr ∧ ∀ i, i < k → okAt rs i = true)
     case atStart => exact ⟨0, rfl, Nat.zero_le _, rfl, HX3.out, HB3.out, fun i hi => absurd hi (Nat.not_lt_zero i)⟩
     case round =>
      obtain ⟨k, rfl, hk, rfl, hx, hb, hall⟩ := hrel;have HX := hid hx;have HB := hid hb;have HALL := hid hall;have x0 := heap_cell hx 0;have x1 := heap_cell hx 1;have x2 := heap_cell hx 2;clear hx hb hall HB3 HX3
      by_cases hlt : k < n
      · have had := HH.out.ad (by omega);subst had;have hlt' : k < rs.length := by rw [HN.out]; exact hlt
        have hsz := HSH.out.2.2 _ (List.getElem_mem hlt');have hlti : (k : Int) < (n : Int) := by omega
        have hki0 : (0 : Int) ≤ (k : Int) := by omega
        have c0 := (HH.out.far HB.out).nm k hlt';have c1 := (HH.out.far HB.out).nu k hlt';have hin := fun W => refName_any rs[k].1 W
        have hnv := fun W => refValid_any rs[k].2 W (by omega)
        have hok0 : ∀ h : k = 0, okAt rs k = (nameF rs[k].1.toList && true && !(rs[k].2.toList == [48]) && (ratF rs[k].2.data.toList).isSome) := fun h => by subst h; exact okAt_zero hlt'
        have hoks : ∀ j (h : k = j + 1), okAt rs k = (nameF rs[k].1.toList && Op.bytesLess (rs[j]'(by omega)).1.toList rs[k].1.toList && !(rs[k].2.toList == [48]) && (ratF rs[k].2.data.toList).isSome) := fun j h => by subst h; exact okAt_succ hlt'
        generalize rs[k] = x at *;obtain ⟨t0, t1⟩ := x
        dsimp only at *
        obtain ⟨b1, hb1⟩ : ∃ b, nameF t0.toList = b := ⟨_, rfl⟩
        obtain ⟨b3, hb3⟩ : ∃ b, (t1.toList == [48]) = b := ⟨_, rfl⟩
        obtain ⟨b4, hb4⟩ : ∃ b, (ratF t1.data.toList).isSome = b := ⟨_, rfl⟩
        rw [hb1] at hin hok0 hoks;rw [hb4] at hnv hok0 hoks;rw [hb3] at hok0 hoks;have HIN := hid hin;have HNV := hid hnv;have HNZ := hid hb3;have HOK0 := hid hok0;have HOKS := hid hoks;clear hin hnv hb1 hb3 hb4 hok0 hoks hsz
        go_wp2_with fail
        have C0 : ∀ W, Below wr.heap.size wr W → W.cell? ⟨g, off + k * 2, none⟩ = some (.string t0) := fun W hW => (hW.cell (World.block_lt_of_cell? _ _ c0)).trans c0
        have C1 : ∀ W, Below wr.heap.size wr W → W.cell? ⟨g, off + k * 2 + 1, none⟩ = some (.string t1) := fun W hW => (hW.cell (World.block_lt_of_cell? _ _ c1)).trans c1
        have C2 : ∀ W, Below wr.heap.size wr W → W.cell? ⟨w.heap.size, 1, none⟩ = some (.slice (some ⟨g, off, none⟩) n cap) := fun W hW => (hW.cell (World.block_lt_of_cell? _ _ x1)).trans x1
        have HBa := HB;have HXa := HX;have HC0 := hid C0;have HC1 := hid C1;have HC2 := hid C2;clear C0 C1 C2 x0 x1 x2 c0 c1
        by_cases hk0 : k = 0
        · subst hk0;have HOK := hid (HOK0.out rfl);clear HOK0 HOKS hlt'
          have hw5 : (b1 = false) ∨ (b1 = true ∧ b4 = false) ∨ (b1 = true ∧ b4 = true ∧ b3 = true) ∨ (b1 = true ∧ b4 = true ∧ b3 = false) := by
           clear HIN HNV HOK HNZ;cases b1 <;> cases b4 <;> cases b3 <;> simp
          rcases hw5 with rfl | ⟨rfl, rfl⟩ | ⟨rfl, rfl, rfl⟩ | ⟨rfl, rfl, rfl⟩
          iterate 3
           · have hnz := HNZ.out;have hno : V = false := HFAIL.out (0) (by omega) (by rw [HOK.out]; simp);subst hno;refine q_region (fun W => Below wr.heap.size wr W) (by kernel_rfl) (by kernel_rfl) (Below.refl _ _).drew ?_
             repeat (first
              | (refine q_skip ?_ ?_
                 · (go_simp; done)
                 simp only [Act.put, List.setIfInBounds_toArray, List.set_cons_zero, List.set_cons_succ])
              | (refine q_take (v := ?_) ?_ ?_ ?_
                 rotate_left
                 · (go_simp; done)
                 · intro W hW;have z0 := HC0.out W hW;have z1 := HC1.out W hW;have z2 := HC2.out W hW;rw [Nat.zero_mul, Nat.add_zero] at z0 z1
                   go_simp
                   first
                   | with_reducible rfl
                   | (go_at_call 73; refine (HIN.out W).mono ?_; rintro e u ⟨rfl, hb⟩; refine ⟨?_, hW.trans (hb.mono hW.size)⟩; with_reducible rfl)
                   | (go_at_call 72; refine (HNV.out W).mono ?_; rintro e u ⟨rfl, hb⟩; refine ⟨?_, hW.trans (hb.mono hW.size)⟩; with_reducible rfl)
                 simp only [Act.put, List.setIfInBounds_toArray, List.set_cons_zero, List.set_cons_succ])
              | (refine q_skip ?_ ?_
                 · (simp [Region.wanted, yielded, undef]; done)
                 simp only [Act.put, List.setIfInBounds_toArray, List.set_cons_zero, List.set_cons_succ]))
             refine q_nil ?_;intro w2 hw2;have HB2 := hid (HBa.out.trans (hw2.mono HBa.out.size));have HX2 := hid ((hw2.block _ (lt_of_heap HXa.out)).trans HXa.out);clear hw2
             go_wp2
             go_ret
             exact ⟨rfl, HB2.out⟩
          · have hnz := HNZ.out;refine q_region (fun W => Below wr.heap.size wr W) (by kernel_rfl) (by kernel_rfl) (Below.refl _ _).drew ?_
            repeat (first
             | (refine q_skip ?_ ?_
                · (go_simp; done)
                simp only [Act.put, List.setIfInBounds_toArray, List.set_cons_zero, List.set_cons_succ])
             | (refine q_take (v := ?_) ?_ ?_ ?_
                rotate_left
                · (go_simp; done)
                · intro W hW;have z0 := HC0.out W hW;have z1 := HC1.out W hW;have z2 := HC2.out W hW;rw [Nat.zero_mul, Nat.add_zero] at z0 z1
                  go_simp
                  first
                  | with_reducible rfl
                  | (go_at_call 73; refine (HIN.out W).mono ?_; rintro e u ⟨rfl, hb⟩; refine ⟨?_, hW.trans (hb.mono hW.size)⟩; with_reducible rfl)
                  | (go_at_call 72; refine (HNV.out W).mono ?_; rintro e u ⟨rfl, hb⟩; refine ⟨?_, hW.trans (hb.mono hW.size)⟩; with_reducible rfl)
                simp only [Act.put, List.setIfInBounds_toArray, List.set_cons_zero, List.set_cons_succ])
             | (refine q_skip ?_ ?_
                · (simp [Region.wanted, yielded, undef]; done)
                simp only [Act.put, List.setIfInBounds_toArray, List.set_cons_zero, List.set_cons_succ]))
            refine q_nil ?_;intro w2 hw2;have HB2 := hid (HBa.out.trans (hw2.mono HBa.out.size));have HX2 := hid ((hw2.block _ (lt_of_heap HXa.out)).trans HXa.out);clear hw2
            go_wp2
            go_roundg (n - (0 + 1))
            case rel =>
             refine ⟨0 + 1, rfl, by omega, by go_num, HX2.out, HB2.out, fun i hi => ?_⟩
             by_cases hik : i = 0
             · rw [hik, HOK.out]; rfl
             · exact HALL.out i (by omega)
            case measure => omega
        · obtain ⟨j, hjk⟩ : ∃ j, k = j + 1 := ⟨k - 1, by omega⟩
          have hjl : j < rs.length := by rw [HN.out]; omega
          have hok := HOKS.out j hjk;have p0 := (HH.out.far HBa.out).nm j hjl;obtain ⟨tp, htp⟩ : ∃ t, (rs[j]'hjl).1 = t := ⟨_, rfl⟩
          rw [htp] at p0 hok;obtain ⟨b2, hb2⟩ : ∃ b, Op.bytesLess tp.toList t0.toList = b := ⟨_, rfl⟩
          rw [hb2] at hok;have C3 : ∀ W, Below wr.heap.size wr W → W.cell? ⟨g, off + j * 2, none⟩ = some (.string tp) := fun W hW => (hW.cell (World.block_lt_of_cell? _ _ p0)).trans p0
          have HC3 := hid C3;have HLS := hid hb2;have HOK : Hid (okAt rs (j + 1) = (b1 && b2 && !b3 && b4)) := hid (by rw [← hjk]; exact hok);have d1 : decide ((0 : Int) < (k : Int)) = true := decide_eq_true (by omega);have d0 : (0 : Int) < (k : Int) := by omega
          have d2 : 0 < k := by omega
          have d3 : decide (0 < k) = true := decide_eq_true d2;have hw1 : IntKind.i64.wrap ((k : Int) - 1) = (j : Int) := by rw [IntKind.wrap_i64]; omega
          have e3 : (0 : Int) ≤ (j : Int) := by omega
          have e4 : (j : Int) < (n : Int) := by omega
          have hkj : n - k = n - (j + 1) := by omega
          have HKJ := hid hjk;clear C3 p0 htp hjl hok hb2 hjk hk0 HOK0 HOKS hkj
          have hw5 : (b1 = false) ∨ (b1 = true ∧ b4 = false) ∨ (b1 = true ∧ b4 = true ∧ b3 = true) ∨ (b1 = true ∧ b4 = true ∧ b3 = false ∧ b2 = false) ∨ (b1 = true ∧ b4 = true ∧ b3 = false ∧ b2 = true) := by
           clear HIN HNV HOK HLS HNZ;cases b1 <;> cases b4 <;> cases b3 <;> cases b2 <;> simp
          rcases hw5 with rfl | ⟨rfl, rfl⟩ | ⟨rfl, rfl, rfl⟩ | ⟨rfl, rfl, rfl, rfl⟩ | ⟨rfl, rfl, rfl, rfl⟩
          iterate 4
           · have hnz := HNZ.out;have hls := HLS.out;have hno : V = false := HFAIL.out (j + 1) (by have := HKJ.out; omega) (by rw [HOK.out]; simp);subst hno;refine q_region (fun W => Below wr.heap.size wr W) (by kernel_rfl) (by kernel_rfl) (Below.refl _ _).drew ?_
             repeat (first
              | (refine q_skip ?_ ?_
                 · (go_simp; done)
                 simp only [Act.put, List.setIfInBounds_toArray, List.set_cons_zero, List.set_cons_succ])
              | (refine q_take (v := ?_) ?_ ?_ ?_
                 rotate_left
                 · (go_simp; done)
                 · intro W hW;have z0 := HC0.out W hW;have z1 := HC1.out W hW;have z2 := HC2.out W hW;have z3 := HC3.out W hW
                   go_simp
                   first
                   | with_reducible rfl
                   | (go_at_call 73; refine (HIN.out W).mono ?_; rintro e u ⟨rfl, hb⟩; refine ⟨?_, hW.trans (hb.mono hW.size)⟩; with_reducible rfl)
                   | (go_at_call 72; refine (HNV.out W).mono ?_; rintro e u ⟨rfl, hb⟩; refine ⟨?_, hW.trans (hb.mono hW.size)⟩; with_reducible rfl)
                 simp only [Act.put, List.setIfInBounds_toArray, List.set_cons_zero, List.set_cons_succ])
              | (refine q_skip ?_ ?_
                 · (simp [Region.wanted, yielded, undef]; done)
                 simp only [Act.put, List.setIfInBounds_toArray, List.set_cons_zero, List.set_cons_succ]))
             refine q_nil ?_;intro w2 hw2;have HB2 := hid (HBa.out.trans (hw2.mono HBa.out.size));have HX2 := hid ((hw2.block _ (lt_of_heap HXa.out)).trans HXa.out);clear hw2
             go_wp2
             go_ret
             exact ⟨rfl, HB2.out⟩
          · have hnz := HNZ.out;have hls := HLS.out;refine q_region (fun W => Below wr.heap.size wr W) (by kernel_rfl) (by kernel_rfl) (Below.refl _ _).drew ?_
            repeat (first
             | (refine q_skip ?_ ?_
                · (go_simp; done)
                simp only [Act.put, List.setIfInBounds_toArray, List.set_cons_zero, List.set_cons_succ])
             | (refine q_take (v := ?_) ?_ ?_ ?_
                rotate_left
                · (go_simp; done)
                · intro W hW;have z0 := HC0.out W hW;have z1 := HC1.out W hW;have z2 := HC2.out W hW;have z3 := HC3.out W hW
                  go_simp
                  first
                  | with_reducible rfl
                  | (go_at_call 73; refine (HIN.out W).mono ?_; rintro e u ⟨rfl, hb⟩; refine ⟨?_, hW.trans (hb.mono hW.size)⟩; with_reducible rfl)
                  | (go_at_call 72; refine (HNV.out W).mono ?_; rintro e u ⟨rfl, hb⟩; refine ⟨?_, hW.trans (hb.mono hW.size)⟩; with_reducible rfl)
                simp only [Act.put, List.setIfInBounds_toArray, List.set_cons_zero, List.set_cons_succ])
             | (refine q_skip ?_ ?_
                · (simp [Region.wanted, yielded, undef]; done)
                simp only [Act.put, List.setIfInBounds_toArray, List.set_cons_zero, List.set_cons_succ]))
            refine q_nil ?_;intro w2 hw2;have HB2 := hid (HBa.out.trans (hw2.mono HBa.out.size));have HX2 := hid ((hw2.block _ (lt_of_heap HXa.out)).trans HXa.out);clear hw2
            go_wp2
            go_roundg (n - (k + 1))
            case rel =>
             refine ⟨k + 1, rfl, by omega, by go_num, HX2.out, HB2.out, fun i hi => ?_⟩
             by_cases hik : i = j + 1
             · rw [hik, HOK.out]; rfl
             · exact HALL.out i (by have := HKJ.out; omega)
            case measure => omega
      · obtain rfl : k = n := by omega
        have hlti : ¬ ((k : Int) < (k : Int)) := by omega
        have hyes : V = true := by rw [HYES.out HALL.out]; rfl
        subst hyes
        go_wp2
        go_ret
        exact ⟨rfl, HB.out⟩
end
end Go.Proofs.YteoklapcifonaaaGreatDoor

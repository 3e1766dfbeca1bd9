/- Expressions of any texts: linear.Valid and the reference's ValidLinear. -/
import Derived.Test.YteoklapcifonaaaGreatDoorVLG
import Derived.Test.YteoklapcifonaaaGreatDoorVTF
open Go.Lib (hid)
namespace Go.Proofs.YteoklapcifonaaaGreatDoor
open Go.RowKit Nmx
/-- a slice of coefficients of any texts -/
structure RSl (w : World) (ao : Option Addr) (g off cap : Nat) (rs : List (ByteArray × ByteArray)) : Prop where
 le : rs.length ≤ cap
 most : cap ≤ 9223372036854775807
 ad : 0 < cap → ao = some ⟨g, off, none⟩
 nm : ∀ i (h : i < rs.length), w.cell? ⟨g, off + i * 2, none⟩ = some (.string rs[i].1)
 nu : ∀ i (h : i < rs.length), w.cell? ⟨g, off + i * 2 + 1, none⟩ = some (.string rs[i].2)
theorem RSl.far {w w' : World} {ao : Option Addr} {g off cap : Nat} {rs : List (ByteArray × ByteArray)} (h : RSl w ao g off cap rs) (hb : Below w.heap.size w w') : RSl w' ao g off cap rs :=
 ⟨h.le, h.most, h.ad, fun i hi => (hb.cell (World.block_lt_of_cell? _ _ (h.nm i hi))).trans (h.nm i hi), fun i hi => (hb.cell (World.block_lt_of_cell? _ _ (h.nu i hi))).trans (h.nu i hi)⟩
/-- the texts are short -/
def Shrt (rs : List (ByteArray × ByteArray)) (t : ByteArray) : Prop := rs.length ≤ 8 ∧ t.size ≤ 40 ∧ ∀ x ∈ rs, x.1.size ≤ 60 ∧ x.2.size ≤ 40
/-- a coefficient is as it should be -/
def okAt (rs : List (ByteArray × ByteArray)) (i : Nat) : Bool := match rs[i]? with
 | none => true
 | some x => nameF x.1.toList && (match i with
   | 0 => true
   | j + 1 => match rs[j]? with
     | none => true
     | some p => Op.bytesLess p.1.toList x.1.toList) && !(x.2.toList == [48]) && (ratF x.2.data.toList).isSome
/-- an expression is valid -/
def validR (s : Int) (rs : List (ByteArray × ByteArray)) (t : ByteArray) : Bool := (s == 2 || s == 3) && (ratF t.data.toList).isSome && (List.range rs.length).all (okAt rs)
theorem okAt_zero {rs : List (ByteArray × ByteArray)} (h : 0 < rs.length) : okAt rs 0 = (nameF rs[0].1.toList && true && !(rs[0].2.toList == [48]) && (ratF rs[0].2.data.toList).isSome) := by
 unfold okAt;rw [List.getElem?_eq_getElem h]
theorem okAt_succ {rs : List (ByteArray × ByteArray)} {j : Nat} (h : j + 1 < rs.length) : okAt rs (j + 1) = (nameF rs[j + 1].1.toList && Op.bytesLess (rs[j]'(by omega)).1.toList rs[j + 1].1.toList && !(rs[j + 1].2.toList == [48]) && (ratF rs[j + 1].2.data.toList).isSome) := by
 unfold okAt;rw [List.getElem?_eq_getElem h];simp only [List.getElem?_eq_getElem (show j < rs.length by omega)]
theorem validR_no {s : Int} {rs : List (ByteArray × ByteArray)} {t : ByteArray} {i : Nat} (h : i < rs.length) (ho : okAt rs i = false) : validR s rs t = false := by
 unfold validR;rw [Bool.and_eq_false_iff];refine .inr ?_;rw [List.all_eq_false];exact ⟨i, List.mem_range.2 h, by rw [ho]; exact Bool.false_ne_true⟩
theorem validR_yes {s : Int} {rs : List (ByteArray × ByteArray)} {t : ByteArray} (h : ∀ i, i < rs.length → okAt rs i = true) : validR s rs t = ((s == 2 || s == 3) && (ratF t.data.toList).isSome) := by
 unfold validR;rw [show (List.range rs.length).all (okAt rs) = true from List.all_eq_true.2 fun i hi => h i (List.mem_range.1 hi), Bool.and_true]
theorem numValidS (s : ByteArray) (w : World) (hs : s.size ≤ 1000) (h : Env w) : Calls Tryz.prog 54 #[.string s] w fun e w' => e = .returned (.bool (ratF s.data.toList).isSome) ∧ Below w.heap.size w w' :=
 numValid_any s w (by omega) h (gcdAt_any (by rw [size_data]; omega))
section
set_option maxRecDepth 100000
set_option maxHeartbeats 16000000
theorem isNumeric_all (s : Int) (w : World) : Calls Tryz.prog 70 #[.int .i64 s] w fun e w' => e = .returned (.bool (s == 2 || s == 3)) ∧ w' = w := by
 by_cases h2 : s = 2
 · subst h2
   go_enter Tryz.func70, Tryz.ntmps70
   go_wp2
   go_ret
   exact ⟨rfl, rfl⟩
 · by_cases h3 : s = 3
   · subst h3
     go_enter Tryz.func70, Tryz.ntmps70
     go_wp2
     go_ret
     exact ⟨rfl, rfl⟩
   · have b2 : (s == 2) = false := by rw [beq_eq_false_iff_ne]; exact h2
     have b3 : (s == 3) = false := by rw [beq_eq_false_iff_ne]; exact h3
     have d2 : decide (s = 2) = false := decide_eq_false h2;have d3 : decide (s = 3) = false := decide_eq_false h3;rw [b2, b3]
     go_enter Tryz.func70, Tryz.ntmps70
     go_wp2
     go_ret
     exact ⟨rfl, rfl⟩
theorem refNumeric_all (s : Int) (w : World) : Calls Tryz.prog 71 #[.int .i64 s] w fun e w' => e = .returned (.bool (s == 2 || s == 3)) ∧ w' = w := by
 by_cases h2 : s = 2
 · subst h2
   go_enter Tryz.func71, Tryz.ntmps71
   go_wp2
   go_ret
   exact ⟨rfl, rfl⟩
 · by_cases h3 : s = 3
   · subst h3
     go_enter Tryz.func71, Tryz.ntmps71
     go_wp2
     go_ret
     exact ⟨rfl, rfl⟩
   · have b2 : (s == 2) = false := by rw [beq_eq_false_iff_ne]; exact h2
     have b3 : (s == 3) = false := by rw [beq_eq_false_iff_ne]; exact h3
     have d2 : decide (s = 2) = false := decide_eq_false h2;have d3 : decide (s = 3) = false := decide_eq_false h3;rw [b2, b3]
     go_enter Tryz.func71, Tryz.ntmps71
     go_wp2
     go_ret
     exact ⟨rfl, rfl⟩
theorem linValidR {w : World} {s : Int} {ao : Option Addr} {g off cap : Nat} {rs : List (ByteArray × ByteArray)} {t : ByteArray} (hC : RSl w ao g off cap rs) (hS : Shrt rs t) (hE : Env w) :
    Calls Tryz.prog 29 #[.agg #[.int .i64 s, .slice ao rs.length cap, .string t]] w fun e w' => e = .returned (.bool (validR s rs t)) ∧ Below w.heap.size w w' := by
 have hle := hC.le;have hmost := hC.most;have HH := hid hC;have HSH := hid hS;have HE := hid hE;have hvc := fun W hW => numValidS t W (by have := hS.2.1; omega) hW
 have hnu := fun W => isNumeric_all s W
 have HFAIL0 : Hid (∀ i, i < rs.length → okAt rs i = false → validR s rs t = false) := hid fun i hi ho => validR_no hi ho
 have HYES0 : Hid ((∀ i, i < rs.length → okAt rs i = true) → validR s rs t = ((s == 2 || s == 3) && (ratF t.data.toList).isSome)) := hid validR_yes;have HB0 : Hid (Below w.heap.size w (w.alloc (.cells #[.int .i64 s, .slice ao rs.length cap, .string t] 26))) := hid ((Below.refl _ _).alloc (Nat.le_refl _) _);have HX0 := hid (heap_alloc_new w (.cells #[.int .i64 s, .slice ao rs.length cap, .string t] 26));obtain ⟨n, hn⟩ : ∃ n, rs.length = n := ⟨_, rfl⟩
 have HN := hid hn;obtain ⟨V, hV⟩ : ∃ V, validR s rs t = V := ⟨_, rfl⟩
 obtain ⟨bs, hbs⟩ : ∃ b, (s == 2 || s == 3) = b := ⟨_, rfl⟩
 obtain ⟨bt, hbt⟩ : ∃ b, (ratF t.data.toList).isSome = b := ⟨_, rfl⟩
 rw [hn, hV] at HFAIL0;rw [hn, hV, hbs, hbt] at HYES0;rw [hbs] at hnu;rw [hbt] at hvc;have HFAIL := hid HFAIL0.out;have HYES := hid HYES0.out;have HNU := hid hnu;have HVC := hid hvc;rw [hn] at hle HB0 HX0;rw [hn, hV];clear hC hS hn hvc hnu hV hbs hbt HFAIL0 HYES0 hE
 go_enter Tryz.func29, Tryz.ntmps29
 go_wp2_with fail
 go_loopg [8] n (fun gh iv wr => ∃ k : Nat, gh = n - k ∧ k ≤ n ∧ iv = .int .i64 k ∧ wr.heap[w.heap.size]? = some (.cells #[.int .i64 s, .slice ao n cap, .string t] 26 (0, 0)) ∧ Below w.heap.size w wr ∧ ∀ i, i < k → okAt rs i = true)
 case atStart => exact ⟨0, rfl, Nat.zero_le _, rfl, HX0.out, HB0.out, fun i hi => absurd hi (Nat.not_lt_zero i)⟩
 case round =>
  obtain ⟨k, rfl, hk, rfl, hx, hb, hall⟩ := hrel;have HX := hid hx;have HB := hid hb;have HALL := hid hall;have x0 := heap_cell hx 0;have x1 := heap_cell hx 1;have x2 := heap_cell hx 2;clear hx hb hall HB0 HX0
  by_cases hlt : k < n
  · have had := HH.out.ad (by omega);subst had;have hlt' : k < rs.length := by rw [HN.out]; exact hlt
    have hsz := HSH.out.2.2 _ (List.getElem_mem hlt');have c0 := (HH.out.far HB.out).nm k hlt';have c1 := (HH.out.far HB.out).nu k hlt';have hin := fun W => isName_any rs[k].1 W
    have hnv := fun W hW => numValidS rs[k].2 W (by omega) hW
    have hok0 : ∀ h : k = 0, okAt rs k = (nameF rs[k].1.toList && true && !(rs[k].2.toList == [48]) && (ratF rs[k].2.data.toList).isSome) := fun h => by subst h; exact okAt_zero hlt'
    have hoks : ∀ j (h : k = j + 1), okAt rs k = (nameF rs[k].1.toList && Op.bytesLess (rs[j]'(by omega)).1.toList rs[k].1.toList && !(rs[k].2.toList == [48]) && (ratF rs[k].2.data.toList).isSome) := fun j h => by subst h; exact okAt_succ hlt'
    generalize rs[k] = x at *;obtain ⟨t0, t1⟩ := x
    dsimp only at *
    obtain ⟨b1, hb1⟩ : ∃ b, nameF t0.toList = b := ⟨_, rfl⟩
    obtain ⟨b3, hb3⟩ : ∃ b, (t1.toList == [48]) = b := ⟨_, rfl⟩
    obtain ⟨b4, hb4⟩ : ∃ b, (ratF t1.data.toList).isSome = b := ⟨_, rfl⟩
    rw [hb1] at hin hok0 hoks;rw [hb4] at hnv hok0 hoks;rw [hb3] at hok0 hoks;have HIN := hid hin;have HNV := hid hnv;have HNZ := hid hb3;have HOK0 := hid hok0;have HOKS := hid hoks;clear hin hnv hb1 hb3 hb4 hok0 hoks hsz;have hal : Below wr.heap.size wr (wr.alloc (.cells #[.string t0, .string t1] 79)) := (Below.refl _ _).alloc (Nat.le_refl _) _;have HN0 := hid (heap_alloc_new wr (.cells #[.string t0, .string t1] 79));have HXa := hid ((hal.block _ (lt_of_heap HX.out)).trans HX.out);have HBa := hid (HB.out.trans (hal.mono HB.out.size));clear hal x0 x1 x2
    go_upto_region 4 with fail
    generalize wr.alloc (.cells #[.string t0, .string t1] 79) = wa at *;generalize wr.heap.size = R at *;have x0 := heap_cell HXa.out 0;have x1 := heap_cell HXa.out 1;have x2 := heap_cell HXa.out 2;have y0 := heap_cell HN0.out 0;have y1 := heap_cell HN0.out 1;have C0 : ∀ W, Below wa.heap.size wa W → W.cell? ⟨R, 0, none⟩ = some (.string t0) := fun W hW => (hW.cell (World.block_lt_of_cell? _ _ y0)).trans y0
    have C1 : ∀ W, Below wa.heap.size wa W → W.cell? ⟨R, 1, none⟩ = some (.string t1) := fun W hW => (hW.cell (World.block_lt_of_cell? _ _ y1)).trans y1
    have C2 : ∀ W, Below wa.heap.size wa W → W.cell? ⟨w.heap.size, 1, none⟩ = some (.slice (some ⟨g, off, none⟩) n cap) := fun W hW => (hW.cell (World.block_lt_of_cell? _ _ x1)).trans x1
    have CE : ∀ W, Below wa.heap.size wa W → Env W := fun W hW => HE.out.far (HBa.out.trans (hW.mono HBa.out.size))
    have HC0 := hid C0;have HC1 := hid C1;have HC2 := hid C2;have HCE := hid CE;clear C0 C1 C2 CE x0 x1 x2 y0 y1 c0 c1
    by_cases hk0 : k = 0
    · subst hk0;have HOK := hid (HOK0.out rfl);clear HOK0 HOKS hlt'
      have hw5 : (b1 = false) ∨ (b1 = true ∧ b3 = true) ∨ (b1 = true ∧ b3 = false ∧ b4 = false) ∨ (b1 = true ∧ b3 = false ∧ b4 = true) := by
       clear HIN HNV HOK HNZ;cases b1 <;> cases b3 <;> cases b4 <;> simp
      rcases hw5 with rfl | ⟨rfl, rfl⟩ | ⟨rfl, rfl, rfl⟩ | ⟨rfl, rfl, rfl⟩
      iterate 3
       · have hnz := HNZ.out;have hno : V = false := HFAIL.out (0) (by omega) (by rw [HOK.out]; simp);subst hno;refine q_region (fun W => Below wa.heap.size wa W) (by kernel_rfl) (by kernel_rfl) (Below.refl _ _).drew ?_
         repeat (first
          | (refine q_skip ?_ ?_
             · (go_simp; done)
             simp only [Act.put, List.setIfInBounds_toArray, List.set_cons_zero, List.set_cons_succ])
          | (refine q_take (v := ?_) ?_ ?_ ?_
             rotate_left
             · (go_simp; done)
             · intro W hW;have z0 := HC0.out W hW;have z1 := HC1.out W hW;have z2 := HC2.out W hW
               go_simp
               first
               | with_reducible rfl
               | (go_at_call 69; refine (HIN.out W).mono ?_; rintro e u ⟨rfl, rfl⟩; refine ⟨?_, hW⟩; with_reducible rfl)
               | (go_at_call 54; refine (HNV.out W (HCE.out W hW)).mono ?_; rintro e u ⟨rfl, hb⟩; refine ⟨?_, hW.trans (hb.mono hW.size)⟩; with_reducible rfl)
             simp only [Act.put, List.setIfInBounds_toArray, List.set_cons_zero, List.set_cons_succ])
          | (refine q_skip ?_ ?_
             · (simp [Region.wanted, yielded, undef]; done)
             simp only [Act.put, List.setIfInBounds_toArray, List.set_cons_zero, List.set_cons_succ]))
         refine q_nil ?_;intro w2 hw2;have HB2 := hid (HBa.out.trans (hw2.mono HBa.out.size));have HX2 := hid ((hw2.block _ (lt_of_heap HXa.out)).trans HXa.out);clear hw2
         go_wp2
         go_ret
         exact ⟨rfl, HB2.out⟩
      · have hnz := HNZ.out;refine q_region (fun W => Below wa.heap.size wa W) (by kernel_rfl) (by kernel_rfl) (Below.refl _ _).drew ?_
        repeat (first
         | (refine q_skip ?_ ?_
            · (go_simp; done)
            simp only [Act.put, List.setIfInBounds_toArray, List.set_cons_zero, List.set_cons_succ])
         | (refine q_take (v := ?_) ?_ ?_ ?_
            rotate_left
            · (go_simp; done)
            · intro W hW;have z0 := HC0.out W hW;have z1 := HC1.out W hW;have z2 := HC2.out W hW
              go_simp
              first
              | with_reducible rfl
              | (go_at_call 69; refine (HIN.out W).mono ?_; rintro e u ⟨rfl, rfl⟩; refine ⟨?_, hW⟩; with_reducible rfl)
              | (go_at_call 54; refine (HNV.out W (HCE.out W hW)).mono ?_; rintro e u ⟨rfl, hb⟩; refine ⟨?_, hW.trans (hb.mono hW.size)⟩; with_reducible rfl)
            simp only [Act.put, List.setIfInBounds_toArray, List.set_cons_zero, List.set_cons_succ])
         | (refine q_skip ?_ ?_
            · (simp [Region.wanted, yielded, undef]; done)
            simp only [Act.put, List.setIfInBounds_toArray, List.set_cons_zero, List.set_cons_succ]))
        refine q_nil ?_;intro w2 hw2;have HB2 := hid (HBa.out.trans (hw2.mono HBa.out.size));have HX2 := hid ((hw2.block _ (lt_of_heap HXa.out)).trans HXa.out);clear hw2
        go_wp2
        go_roundg (n - (0 + 1))
        case rel =>
         refine ⟨0 + 1, rfl, by omega, by go_num, HX2.out, HB2.out, fun i hi => ?_⟩
         by_cases hik : i = 0
         · rw [hik, HOK.out]; rfl
         · exact HALL.out i (by omega)
        case measure => omega
    · obtain ⟨j, hjk⟩ : ∃ j, k = j + 1 := ⟨k - 1, by omega⟩
      have hjl : j < rs.length := by rw [HN.out]; omega
      have hok := HOKS.out j hjk;have p0 := (HH.out.far HBa.out).nm j hjl;obtain ⟨tp, htp⟩ : ∃ t, (rs[j]'hjl).1 = t := ⟨_, rfl⟩
      rw [htp] at p0 hok;obtain ⟨b2, hb2⟩ : ∃ b, Op.bytesLess tp.toList t0.toList = b := ⟨_, rfl⟩
      rw [hb2] at hok;have C3 : ∀ W, Below wa.heap.size wa W → W.cell? ⟨g, off + j * 2, none⟩ = some (.string tp) := fun W hW => (hW.cell (World.block_lt_of_cell? _ _ p0)).trans p0
      have HC3 := hid C3;have HLS := hid hb2;have HOK : Hid (okAt rs (j + 1) = (b1 && b2 && !b3 && b4)) := hid (by rw [← hjk]; exact hok);subst hjk;have d1 : decide ((0 : Int) < ((j + 1 : Nat) : Int)) = true := decide_eq_true (by omega);have hw2 : IntKind.i64.wrap ((j : Int) + 1 - 1) = (j : Int) := by rw [IntKind.wrap_i64]; omega
      have hw1 : IntKind.i64.wrap (((j + 1 : Nat) : Int) - 1) = (j : Int) := by rw [IntKind.wrap_i64]; omega
      have hw3 : IntKind.i64.wrap (j : Int) = (j : Int) := by rw [IntKind.wrap_i64]; omega
      have e3 : (0 : Int) ≤ (j : Int) := by omega
      have e4 : (j : Int) < (n : Int) := by omega
      have e5 : (0 : Int) ≤ ((j + 1 : Nat) : Int) - 1 := by omega
      have e6 : ((j + 1 : Nat) : Int) - 1 < (n : Int) := by omega
      clear C3 p0 htp hjl hok hb2 hk0 HOK0 HOKS hlt'
      have hw5 : (b1 = false) ∨ (b1 = true ∧ b2 = false) ∨ (b1 = true ∧ b2 = true ∧ b3 = true) ∨ (b1 = true ∧ b2 = true ∧ b3 = false ∧ b4 = false) ∨ (b1 = true ∧ b2 = true ∧ b3 = false ∧ b4 = true) := by
       clear HIN HNV HOK HLS HNZ;cases b1 <;> cases b2 <;> cases b3 <;> cases b4 <;> simp
      rcases hw5 with rfl | ⟨rfl, rfl⟩ | ⟨rfl, rfl, rfl⟩ | ⟨rfl, rfl, rfl, rfl⟩ | ⟨rfl, rfl, rfl, rfl⟩
      iterate 4
       · have hnz := HNZ.out;have hls := HLS.out;have hno : V = false := HFAIL.out (j + 1) (by omega) (by rw [HOK.out]; simp);subst hno;refine q_region (fun W => Below wa.heap.size wa W) (by kernel_rfl) (by kernel_rfl) (Below.refl _ _).drew ?_
         repeat (first
          | (refine q_skip ?_ ?_
             · (go_simp; done)
             simp only [Act.put, List.setIfInBounds_toArray, List.set_cons_zero, List.set_cons_succ])
          | (refine q_take (v := ?_) ?_ ?_ ?_
             rotate_left
             · (go_simp; done)
             · intro W hW;have z0 := HC0.out W hW;have z1 := HC1.out W hW;have z2 := HC2.out W hW;have z3 := HC3.out W hW
               go_simp
               first
               | with_reducible rfl
               | (go_at_call 69; refine (HIN.out W).mono ?_; rintro e u ⟨rfl, rfl⟩; refine ⟨?_, hW⟩; with_reducible rfl)
               | (go_at_call 54; refine (HNV.out W (HCE.out W hW)).mono ?_; rintro e u ⟨rfl, hb⟩; refine ⟨?_, hW.trans (hb.mono hW.size)⟩; with_reducible rfl)
             simp only [Act.put, List.setIfInBounds_toArray, List.set_cons_zero, List.set_cons_succ])
          | (refine q_skip ?_ ?_
             · (simp [Region.wanted, yielded, undef]; done)
             simp only [Act.put, List.setIfInBounds_toArray, List.set_cons_zero, List.set_cons_succ]))
         refine q_nil ?_;intro w2 hw2;have HB2 := hid (HBa.out.trans (hw2.mono HBa.out.size));have HX2 := hid ((hw2.block _ (lt_of_heap HXa.out)).trans HXa.out);clear hw2
         go_wp2
         go_ret
         exact ⟨rfl, HB2.out⟩
      · have hnz := HNZ.out;have hls := HLS.out;refine q_region (fun W => Below wa.heap.size wa W) (by kernel_rfl) (by kernel_rfl) (Below.refl _ _).drew ?_
        repeat (first
         | (refine q_skip ?_ ?_
            · (go_simp; done)
            simp only [Act.put, List.setIfInBounds_toArray, List.set_cons_zero, List.set_cons_succ])
         | (refine q_take (v := ?_) ?_ ?_ ?_
            rotate_left
            · (go_simp; done)
            · intro W hW;have z0 := HC0.out W hW;have z1 := HC1.out W hW;have z2 := HC2.out W hW;have z3 := HC3.out W hW
              go_simp
              first
              | with_reducible rfl
              | (go_at_call 69; refine (HIN.out W).mono ?_; rintro e u ⟨rfl, rfl⟩; refine ⟨?_, hW⟩; with_reducible rfl)
              | (go_at_call 54; refine (HNV.out W (HCE.out W hW)).mono ?_; rintro e u ⟨rfl, hb⟩; refine ⟨?_, hW.trans (hb.mono hW.size)⟩; with_reducible rfl)
            simp only [Act.put, List.setIfInBounds_toArray, List.set_cons_zero, List.set_cons_succ])
         | (refine q_skip ?_ ?_
            · (simp [Region.wanted, yielded, undef]; done)
            simp only [Act.put, List.setIfInBounds_toArray, List.set_cons_zero, List.set_cons_succ]))
        refine q_nil ?_;intro w2 hw2;have HB2 := hid (HBa.out.trans (hw2.mono HBa.out.size));have HX2 := hid ((hw2.block _ (lt_of_heap HXa.out)).trans HXa.out);clear hw2
        go_wp2
        go_roundg (n - (j + 1 + 1))
        case rel =>
         refine ⟨j + 1 + 1, rfl, by omega, by go_num, HX2.out, HB2.out, fun i hi => ?_⟩
         by_cases hik : i = j + 1
         · rw [hik, HOK.out]; rfl
         · exact HALL.out i (by omega)
        case measure => omega
  · obtain rfl : k = n := by omega
    have hyes := HYES.out HALL.out;have HV := hid hyes;clear hyes
    go_wp2_with fail
    refine (HNU.out _).mono ?_;rintro e u ⟨rfl, hw⟩;obtain rfl := hw.symm;cases bs with
    | false =>
      have hv : V = false := HV.out;subst hv
      go_wp2
      go_ret
      exact ⟨rfl, HB.out⟩
    | true =>
      have hv : V = bt := HV.out;subst hv
      go_wp2_with fail
      refine (HVC.out _ (HE.out.far HB.out)).mono ?_;rintro e u2 ⟨rfl, hb2⟩;have HB2 := hid (HB.out.trans (hb2.mono HB.out.size));clear hb2
      go_wp2
      go_ret
      exact ⟨rfl, HB2.out⟩
end
end Go.Proofs.YteoklapcifonaaaGreatDoor

/- Expressions of any texts: linear.Valid and the reference's ValidLinear. -/
import Derived.Test.YteoklapcifonaaaGreatDoorNLG
import Derived.Test.YteoklapcifonaaaGreatDoorNTF
import Derived.Test.YteoklapcifonaaaGreatDoorNLU
open Go.Lib (hid)
namespace Go.Proofs.YteoklapcifonaaaGreatDoor
open Go.RowKit Nmx
/-- a slice of coefficients of any texts -/
structure RSl (w : World) (ao : Option Addr) (g off cap : Nat) (rs : List (ByteArray × ByteArray)) : Prop where
 le : rs.length ≤ cap
 most : cap ≤ 9223372036854775807
 ad : 0 < cap → ao = some ⟨g, off, none⟩
 nm : ∀ i (h : i < rs.length), w.cell? ⟨g, off + i * 2, none⟩ = some (.string rs[i].1)
 nu : ∀ i (h : i < rs.length), w.cell? ⟨g, off + i * 2 + 1, none⟩ = some (.string rs[i].2)
theorem RSl.far {w w' : World} {ao : Option Addr} {g off cap : Nat} {rs : List (ByteArray × ByteArray)} (h : RSl w ao g off cap rs) (hb : Below w.heap.size w w') : RSl w' ao g off cap rs :=
 ⟨h.le, h.most, h.ad, fun i hi => (hb.cell (World.block_lt_of_cell? _ _ (h.nm i hi))).trans (h.nm i hi), fun i hi => (hb.cell (World.block_lt_of_cell? _ _ (h.nu i hi))).trans (h.nu i hi)⟩
/-- the texts are short -/
def Shrt (rs : List (ByteArray × ByteArray)) (t : ByteArray) : Prop := rs.length ≤ 8 ∧ t.size ≤ 40 ∧ ∀ x ∈ rs, x.1.size ≤ 60 ∧ x.2.size ≤ 40
/-- a coefficient is as it should be -/
def okAt (rs : List (ByteArray × ByteArray)) (i : Nat) : Bool := match rs[i]? with
 | none => true
 | some x => bK x.1.toList && (match i with
   | 0 => true
   | j + 1 => match rs[j]? with
     | none => true
     | some p => Op.bytesLess p.1.toList x.1.toList) && !(x.2.toList == [48]) && (ap x.2.data.toList).isSome
/-- an expression is valid -/
def bM (s : Int) (rs : List (ByteArray × ByteArray)) (t : ByteArray) : Bool := (s == 2 || s == 3) && (ap t.data.toList).isSome && (List.range rs.length).all (okAt rs)
theorem okAt_zero {rs : List (ByteArray × ByteArray)} (h : 0 < rs.length) : okAt rs 0 = (bK rs[0].1.toList && true && !(rs[0].2.toList == [48]) && (ap rs[0].2.data.toList).isSome) := by
 unfold okAt;rw [List.getElem?_eq_getElem h]
theorem okAt_succ {rs : List (ByteArray × ByteArray)} {j : Nat} (h : j + 1 < rs.length) : okAt rs (j + 1) = (bK rs[j + 1].1.toList && Op.bytesLess (rs[j]'(by omega)).1.toList rs[j + 1].1.toList && !(rs[j + 1].2.toList == [48]) && (ap rs[j + 1].2.data.toList).isSome) := by
 unfold okAt;rw [List.getElem?_eq_getElem h];simp only [List.getElem?_eq_getElem (show j < rs.length by omega)]
theorem validR_no {s : Int} {rs : List (ByteArray × ByteArray)} {t : ByteArray} {i : Nat} (h : i < rs.length) (ho : okAt rs i = false) : bM s rs t = false := by
 unfold bM;rw [Bool.and_eq_false_iff];refine .inr ?_;rw [List.all_eq_false];exact ⟨i, List.mem_range.2 h, by rw [ho]; exact Bool.false_ne_true⟩
theorem validR_yes {s : Int} {rs : List (ByteArray × ByteArray)} {t : ByteArray} (h : ∀ i, i < rs.length → okAt rs i = true) : bM s rs t = ((s == 2 || s == 3) && (ap t.data.toList).isSome) := by
 unfold bM;rw [show (List.range rs.length).all (okAt rs) = true from List.all_eq_true.2 fun i hi => h i (List.mem_range.1 hi), Bool.and_true]
theorem numValidS (s : ByteArray) (w : World) (hs : s.size ≤ 1000) (h : Env w) : Calls Tryz.prog 54 #[.string s] w fun e w' => e = .returned (.bool (ap s.data.toList).isSome) ∧ Below w.heap.size w w' :=
 numValid_any s w (by omega) h (gcdAt_any (by rw [size_data]; omega))
section
set_option maxRecDepth 100000
set_option maxHeartbeats 16000000
theorem isNumeric_all (s : Int) (w : World) : Calls Tryz.prog 70 #[.int .i64 s] w fun e w' => e = .returned (.bool (s == 2 || s == 3)) ∧ w' = w := by
 by_cases h2 : s = 2
 · subst h2
   go_enter Tryz.func70, Tryz.ntmps70
   go_wp2
   go_ret
   exact ⟨rfl, rfl⟩
 · by_cases h3 : s = 3
   · subst h3
     go_enter Tryz.func70, Tryz.ntmps70
     go_wp2
     go_ret
     exact ⟨rfl, rfl⟩
   · have b2 : (s == 2) = false := by rw [beq_eq_false_iff_ne]; exact h2
     have b3 : (s == 3) = false := by rw [beq_eq_false_iff_ne]; exact h3
     have d2 : decide (s = 2) = false := decide_eq_false h2;have d3 : decide (s = 3) = false := decide_eq_false h3;rw [b2, b3]
     go_enter Tryz.func70, Tryz.ntmps70
     go_wp2
     go_ret
     exact ⟨rfl, rfl⟩
theorem refNumeric_all (s : Int) (w : World) : Calls Tryz.prog 71 #[.int .i64 s] w fun e w' => e = .returned (.bool (s == 2 || s == 3)) ∧ w' = w := by
 by_cases h2 : s = 2
 · subst h2
   go_enter Tryz.func71, Tryz.ntmps71
   go_wp2
   go_ret
   exact ⟨rfl, rfl⟩
 · by_cases h3 : s = 3
   · subst h3
     go_enter Tryz.func71, Tryz.ntmps71
     go_wp2
     go_ret
     exact ⟨rfl, rfl⟩
   · have b2 : (s == 2) = false := by rw [beq_eq_false_iff_ne]; exact h2
     have b3 : (s == 3) = false := by rw [beq_eq_false_iff_ne]; exact h3
     have d2 : decide (s = 2) = false := decide_eq_false h2;have d3 : decide (s = 3) = false := decide_eq_false h3;rw [b2, b3]
     go_enter Tryz.func71, Tryz.ntmps71
     go_wp2
     go_ret
     exact ⟨rfl, rfl⟩
theorem linValidR {w : World} {s : Int} {ao : Option Addr} {g off cap : Nat} {rs : List (ByteArray × ByteArray)} {t : ByteArray} (hC : RSl w ao g off cap rs) (hS : Shrt rs t) (hE : Env w) :
    Calls Tryz.prog 29 #[.agg #[.int .i64 s, .slice ao rs.length cap, .string t]] w fun e w' => e = .returned (.bool (bM s rs t)) ∧ Below w.heap.size w w' := by
 have hle := hC.le;have hmost := hC.most;have HH := hid hC;have HSH := hid hS;have HE := hid hE;have hvc := fun W hW => numValidS t W (by have := hS.2.1; omega) hW
 have hnu := fun W => isNumeric_all s W
 have HFAIL0 : Hid (∀ i, i < rs.length → okAt rs i = false → bM s rs t = false) := hid fun i hi ho => validR_no hi ho
 have HYES0 : Hid ((∀ i, i < rs.length → okAt rs i = true) → bM s rs t = ((s == 2 || s == 3) && (ap t.data.toList).isSome)) := hid validR_yes;have HB0 : Hid (Below w.heap.size w (w.alloc (.cells #[.int .i64 s, .slice ao rs.length cap, .string t] 26))) := hid ((Below.refl _ _).alloc (Nat.le_refl _) _);have HX0 := hid (heap_alloc_new w (.cells #[.int .i64 s, .slice ao rs.length cap, .string t] 26));obtain ⟨n, hn⟩ : ∃ n, rs.length = n := ⟨_, rfl⟩
 have HN := hid hn;obtain ⟨V, hV⟩ : ∃ V, bM s rs t = V := ⟨_, rfl⟩
 obtain ⟨bs, hbs⟩ : ∃ b, (s == 2 || s == 3) = b := ⟨_, rfl⟩
 obtain ⟨bt, hbt⟩ : ∃ b, (ap t.data.toList).isSome = b := ⟨_, rfl⟩
 rw [hn, hV] at HFAIL0;rw [hn, hV, hbs, hbt] at HYES0;rw [hbs] at hnu;rw [hbt] at hvc;have HFAIL := hid HFAIL0.out;have HYES := hid HYES0.out;have HNU := hid hnu;have HVC := hid hvc;rw [hn] at hle HB0 HX0;rw [hn, hV];clear hC hS hn hvc hnu hV hbs hbt HFAIL0 HYES0 hE
 go_enter Tryz.func29, Tryz.ntmps29
 go_wp2_with fail
 go_loopg [8] n (fun gh iv wr => ∃ k : Nat, gh = n - k ∧ k ≤ n ∧ iv = .int .i64 k ∧ wr.heap[w.heap.size]? = some (.cells #[.int .i64 s, .slice ao n cap, .string t] 26 (0, 0)) ∧ Below w.heap.size w wr ∧ ∀ i, i < k → okAt rs i = true)
 case atStart => exact ⟨0, rfl, Nat.zero_le _, rfl, HX0.out, HB0.out, fun i hi => absurd hi (Nat.not_lt_zero i)⟩
 case round =>
  obtain ⟨k, rfl, hk, rfl, hx, hb, hall⟩ := hrel;have HX := hid hx;have HB := hid hb;have HALL := hid hall;have x0 := aa hx 0;have x1 := aa hx 1;have x2 := aa hx 2;clear hx hb hall HB0 HX0
  by_cases hlt : k < n
  · have had := HH.out.ad (by omega);subst had;have hlt' : k < rs.length := by rw [HN.out]; exact hlt
    have hsz := HSH.out.2.2 _ (List.getElem_mem hlt');have c0 := (HH.out.far HB.out).nm k hlt';have c1 := (HH.out.far HB.out).nu k hlt';have hin := fun W => isName_any rs[k].1 W
    have hnv := fun W hW => numValidS rs[k].2 W (by omega) hW
    have hok0 : ∀ h : k = 0, okAt rs k = (bK rs[k].1.toList && true && !(rs[k].2.toList == [48]) && (ap rs[k].2.data.toList).isSome) := fun h => by subst h; exact okAt_zero hlt'
    have hoks : ∀ j (h : k = j + 1), okAt rs k = (bK rs[k].1.toList && Op.bytesLess (rs[j]'(by omega)).1.toList rs[k].1.toList && !(rs[k].2.toList == [48]) && (ap rs[k].2.data.toList).isSome) := fun j h => by subst h; exact okAt_succ hlt'
    generalize rs[k] = x at *;obtain ⟨t0, t1⟩ := x
    dsimp only at *
    obtain ⟨b1, hb1⟩ : ∃ b, bK t0.toList = b := ⟨_, rfl⟩
    obtain ⟨b3, hb3⟩ : ∃ b, (t1.toList == [48]) = b := ⟨_, rfl⟩
    obtain ⟨b4, hb4⟩ : ∃ b, (ap t1.data.toList).isSome = b := ⟨_, rfl⟩
    rw [hb1] at hin hok0 hoks;rw [hb4] at hnv hok0 hoks;rw [hb3] at hok0 hoks;have HIN := hid hin;have HNV := hid hnv;have HNZ := hid hb3;have HOK0 := hid hok0;have HOKS := hid hoks;clear hin hnv hb1 hb3 hb4 hok0 hoks hsz;have hal : Below wr.heap.size wr (wr.alloc (.cells #[.string t0, .string t1] 79)) := (Below.refl _ _).alloc (Nat.le_refl _) _;have HN0 := hid (heap_alloc_new wr (.cells #[.string t0, .string t1] 79));have HXa := hid ((hal.block _ (ab HX.out)).trans HX.out);have HBa := hid (HB.out.trans (hal.mono HB.out.size));clear hal x0 x1 x2
    go_upto_region 4 with fail
    generalize wr.alloc (.cells #[.string t0, .string t1] 79) = wa at *;generalize wr.heap.size = R at *;have x0 := aa HXa.out 0;have x1 := aa HXa.out 1;have x2 := aa HXa.out 2;have y0 := aa HN0.out 0;have y1 := aa HN0.out 1;have C0 : ∀ W, Below wa.heap.size wa W → W.cell? ⟨R, 0, none⟩ = some (.string t0) := fun W hW => (hW.cell (World.block_lt_of_cell? _ _ y0)).trans y0
    have C1 : ∀ W, Below wa.heap.size wa W → W.cell? ⟨R, 1, none⟩ = some (.string t1) := fun W hW => (hW.cell (World.block_lt_of_cell? _ _ y1)).trans y1
    have C2 : ∀ W, Below wa.heap.size wa W → W.cell? ⟨w.heap.size, 1, none⟩ = some (.slice (some ⟨g, off, none⟩) n cap) := fun W hW => (hW.cell (World.block_lt_of_cell? _ _ x1)).trans x1
    have CE : ∀ W, Below wa.heap.size wa W → Env W := fun W hW => HE.out.far (HBa.out.trans (hW.mono HBa.out.size))
    have HC0 := hid C0;have HC1 := hid C1;have HC2 := hid C2;have HCE := hid CE;clear C0 C1 C2 CE x0 x1 x2 y0 y1 c0 c1
    by_cases hk0 : k = 0
    · subst hk0;have HOK := hid (HOK0.out rfl);clear HOK0 HOKS hlt'
      have hw5 : (b1 = false) ∨ (b1 = true ∧ b3 = true) ∨ (b1 = true ∧ b3 = false ∧ b4 = false) ∨ (b1 = true ∧ b3 = false ∧ b4 = true) := by
       clear HIN HNV HOK HNZ;cases b1 <;> cases b3 <;> cases b4 <;> simp
      rcases hw5 with rfl | ⟨rfl, rfl⟩ | ⟨rfl, rfl, rfl⟩ | ⟨rfl, rfl, rfl⟩
      iterate 3
       · have hnz := HNZ.out;have hno : V = false := HFAIL.out (0) (by omega) (by rw [HOK.out]; simp);subst hno;refine q_region (fun W => Below wa.heap.size wa W) (by kernel_rfl) (by kernel_rfl) (Below.refl _ _).drew ?_
         repeat (first
          | (refine q_skip ?_ ?_
             · (go_simp; done)
             simp only [Act.put, List.setIfInBounds_toArray, List.set_cons_zero, List.set_cons_succ])
          | (refine q_take (v := ?_) ?_ ?_ ?_
             rotate_left
             · (go_simp; done)
             · intro W hW;have z0 := HC0.out W hW;have z1 := HC1.out W hW;have z2 := HC2.out W hW
               go_simp
               first
               | with_reducible rfl
               | (go_at_call 69; refine (HIN.out W).mono ?_; rintro e u ⟨rfl, rfl⟩; refine ⟨?_, hW⟩; with_reducible rfl)
               | (go_at_call 54; refine (HNV.out W (HCE.out W hW)).mono ?_; rintro e u ⟨rfl, hb⟩; refine ⟨?_, hW.trans (hb.mono hW.size)⟩; with_reducible rfl)
             simp only [Act.put, List.setIfInBounds_toArray, List.set_cons_zero, List.set_cons_succ])
          | (refine q_skip ?_ ?_
             · (simp [Region.wanted, yielded, undef]; done)
             simp only [Act.put, List.setIfInBounds_toArray, List.set_cons_zero, List.set_cons_succ]))
         refine q_nil ?_;intro w2 hw2;have HB2 := hid (HBa.out.trans (hw2.mono HBa.out.size));have HX2 := hid ((hw2.block _ (ab HXa.out)).trans HXa.out);clear hw2
         go_wp2
         go_ret
         exact ⟨rfl, HB2.out⟩
      · have hnz := HNZ.out;refine q_region (fun W => Below wa.heap.size wa W) (by kernel_rfl) (by kernel_rfl) (Below.refl _ _).drew ?_
        repeat (first
         | (refine q_skip ?_ ?_
            · (go_simp; done)
            simp only [Act.put, List.setIfInBounds_toArray, List.set_cons_zero, List.set_cons_succ])
         | (refine q_take (v := ?_) ?_ ?_ ?_
            rotate_left
            · (go_simp; done)
            · intro W hW;have z0 := HC0.out W hW;have z1 := HC1.out W hW;have z2 := HC2.out W hW
              go_simp
              first
              | with_reducible rfl
              | (go_at_call 69; refine (HIN.out W).mono ?_; rintro e u ⟨rfl, rfl⟩; refine ⟨?_, hW⟩; with_reducible rfl)
              | (go_at_call 54; refine (HNV.out W (HCE.out W hW)).mono ?_; rintro e u ⟨rfl, hb⟩; refine ⟨?_, hW.trans (hb.mono hW.size)⟩; with_reducible rfl)
            simp only [Act.put, List.setIfInBounds_toArray, List.set_cons_zero, List.set_cons_succ])
         | (refine q_skip ?_ ?_
            · (simp [Region.wanted, yielded, undef]; done)
            simp only [Act.put, List.setIfInBounds_toArray, List.set_cons_zero, List.set_cons_succ]))
        refine q_nil ?_;intro w2 hw2;have HB2 := hid (HBa.out.trans (hw2.mono HBa.out.size));have HX2 := hid ((hw2.block _ (ab HXa.out)).trans HXa.out);clear hw2
        go_wp2
        go_roundg (n - (0 + 1))
        case rel =>
         refine ⟨0 + 1, rfl, by omega, by go_num, HX2.out, HB2.out, fun i hi => ?_⟩
         by_cases hik : i = 0
         · rw [hik, HOK.out]; rfl
         · exact HALL.out i (by omega)
        case measure => omega
    · obtain ⟨j, hjk⟩ : ∃ j, k = j + 1 := ⟨k - 1, by omega⟩
      have hjl : j < rs.length := by rw [HN.out]; omega
      have hok := HOKS.out j hjk;have p0 := (HH.out.far HBa.out).nm j hjl;obtain ⟨tp, htp⟩ : ∃ t, (rs[j]'hjl).1 = t := ⟨_, rfl⟩
      rw [htp] at p0 hok;obtain ⟨b2, hb2⟩ : ∃ b, Op.bytesLess tp.toList t0.toList = b := ⟨_, rfl⟩
      rw [hb2] at hok;have C3 : ∀ W, Below wa.heap.size wa W → W.cell? ⟨g, off + j * 2, none⟩ = some (.string tp) := fun W hW => (hW.cell (World.block_lt_of_cell? _ _ p0)).trans p0
      have HC3 := hid C3;have HLS := hid hb2;have HOK : Hid (okAt rs (j + 1) = (b1 && b2 && !b3 && b4)) := hid (by rw [← hjk]; exact hok);subst hjk;have d1 : decide ((0 : Int) < ((j + 1 : Nat) : Int)) = true := decide_eq_true (by omega);have hw2 : IntKind.i64.wrap ((j : Int) + 1 - 1) = (j : Int) := by rw [IntKind.wrap_i64]; omega
      have hw1 : IntKind.i64.wrap (((j + 1 : Nat) : Int) - 1) = (j : Int) := by rw [IntKind.wrap_i64]; omega
      have hw3 : IntKind.i64.wrap (j : Int) = (j : Int) := by rw [IntKind.wrap_i64]; omega
      have e3 : (0 : Int) ≤ (j : Int) := by omega
      have e4 : (j : Int) < (n : Int) := by omega
      have e5 : (0 : Int) ≤ ((j + 1 : Nat) : Int) - 1 := by omega
      have e6 : ((j + 1 : Nat) : Int) - 1 < (n : Int) := by omega
      clear C3 p0 htp hjl hok hb2 hk0 HOK0 HOKS hlt'
      have hw5 : (b1 = false) ∨ (b1 = true ∧ b2 = false) ∨ (b1 = true ∧ b2 = true ∧ b3 = true) ∨ (b1 = true ∧ b2 = true ∧ b3 = false ∧ b4 = false) ∨ (b1 = true ∧ b2 = true ∧ b3 = false ∧ b4 = true) := by
       clear HIN HNV HOK HLS HNZ;cases b1 <;> cases b2 <;> cases b3 <;> cases b4 <;> simp
      rcases hw5 with rfl | ⟨rfl, rfl⟩ | ⟨rfl, rfl, rfl⟩ | ⟨rfl, rfl, rfl, rfl⟩ | ⟨rfl, rfl, rfl, rfl⟩
      iterate 4
       · have hnz := HNZ.out;have hls := HLS.out;have hno : V = false := HFAIL.out (j + 1) (by omega) (by rw [HOK.out]; simp);subst hno;refine q_region (fun W => Below wa.heap.size wa W) (by kernel_rfl) (by kernel_rfl) (Below.refl _ _).drew ?_
         repeat (first
          | (refine q_skip ?_ ?_
             · (go_simp; done)
             simp only [Act.put, List.setIfInBounds_toArray, List.set_cons_zero, List.set_cons_succ])
          | (refine q_take (v := ?_) ?_ ?_ ?_
             rotate_left
             · (go_simp; done)
             · intro W hW;have z0 := HC0.out W hW;have z1 := HC1.out W hW;have z2 := HC2.out W hW;have z3 := HC3.out W hW
               go_simp
               first
               | with_reducible rfl
               | (go_at_call 69; refine (HIN.out W).mono ?_; rintro e u ⟨rfl, rfl⟩; refine ⟨?_, hW⟩; with_reducible rfl)
               | (go_at_call 54; refine (HNV.out W (HCE.out W hW)).mono ?_; rintro e u ⟨rfl, hb⟩; refine ⟨?_, hW.trans (hb.mono hW.size)⟩; with_reducible rfl)
             simp only [Act.put, List.setIfInBounds_toArray, List.set_cons_zero, List.set_cons_succ])
          | (refine q_skip ?_ ?_
             · (simp [Region.wanted, yielded, undef]; done)
             simp only [Act.put, List.setIfInBounds_toArray, List.set_cons_zero, List.set_cons_succ]))
         refine q_nil ?_;intro w2 hw2;have HB2 := hid (HBa.out.trans (hw2.mono HBa.out.size));have HX2 := hid ((hw2.block _ (ab HXa.out)).trans HXa.out);clear hw2
         go_wp2
         go_ret
         exact ⟨rfl, HB2.out⟩
      · have hnz := HNZ.out;have hls := HLS.out;refine q_region (fun W => Below wa.heap.size wa W) (by kernel_rfl) (by kernel_rfl) (Below.refl _ _).drew ?_
        repeat (first
         | (refine q_skip ?_ ?_
            · (go_simp; done)
            simp only [Act.put, List.setIfInBounds_toArray, List.set_cons_zero, List.set_cons_succ])
         | (refine q_take (v := ?_) ?_ ?_ ?_
            rotate_left
            · (go_simp; done)
            · intro W hW;have z0 := HC0.out W hW;have z1 := HC1.out W hW;have z2 := HC2.out W hW;have z3 := HC3.out W hW
              go_simp
              first
              | with_reducible rfl
              | (go_at_call 69; refine (HIN.out W).mono ?_; rintro e u ⟨rfl, rfl⟩; refine ⟨?_, hW⟩; with_reducible rfl)
              | (go_at_call 54; refine (HNV.out W (HCE.out W hW)).mono ?_; rintro e u ⟨rfl, hb⟩; refine ⟨?_, hW.trans (hb.mono hW.size)⟩; with_reducible rfl)
            simp only [Act.put, List.setIfInBounds_toArray, List.set_cons_zero, List.set_cons_succ])
         | (refine q_skip ?_ ?_
            · (simp [Region.wanted, yielded, undef]; done)
            simp only [Act.put, List.setIfInBounds_toArray, List.set_cons_zero, List.set_cons_succ]))
        refine q_nil ?_;intro w2 hw2;have HB2 := hid (HBa.out.trans (hw2.mono HBa.out.size));have HX2 := hid ((hw2.block _ (ab HXa.out)).trans HXa.out);clear hw2
        go_wp2
        go_roundg (n - (j + 1 + 1))
        case rel =>
         refine ⟨j + 1 + 1, rfl, by omega, by go_num, HX2.out, HB2.out, fun i hi => ?_⟩
         by_cases hik : i = j + 1
         · rw [hik, HOK.out]; rfl
         · exact HALL.out i (by omega)
        case measure => omega
  · obtain rfl : k = n := by omega
    have hyes := HYES.out HALL.out;have HV := hid hyes;clear hyes
    go_wp2_with fail
    refine (HNU.out _).mono ?_;rintro e u ⟨rfl, hw⟩;obtain rfl := hw.symm;cases bs with
    | false =>
      have hv : V = false := HV.out;subst hv
      go_wp2
      go_ret
      exact ⟨rfl, HB.out⟩
    | true =>
      have hv : V = bt := HV.out;subst hv
      go_wp2_with fail
      refine (HVC.out _ (HE.out.far HB.out)).mono ?_;rintro e u2 ⟨rfl, hb2⟩;have HB2 := hid (HB.out.trans (hb2.mono HB.out.size));clear hb2
      go_wp2
      go_ret
      exact ⟨rfl, HB2.out⟩
end
end Go.Proofs.YteoklapcifonaaaGreatDoor
/- Expressions of any texts: the reference's ValidLinear. -/
namespace Go.Proofs.YteoklapcifonaaaGreatDoor
open Go.RowKit Nmx
section
set_option maxRecDepth 100000
set_option maxHeartbeats 16000000
theorem refValidR {w : World} {s : Int} {ao : Option Addr} {g off cap : Nat} {rs : List (ByteArray × ByteArray)} {t : ByteArray} (hC : RSl w ao g off cap rs) (hS : Shrt rs t) :
    Calls Tryz.prog 30 #[.agg #[.int .i64 s, .slice ao rs.length cap, .string t]] w fun e w' => e = .returned (.bool (bM s rs t)) ∧ Below w.heap.size w w' := by
 have hle := hC.le;have hmost := hC.most;have HH := hid hC;have HSH := hid hS;have hvc := fun W => refValid_any t W (by have := hS.2.1; omega)
 have hnu := fun W => refNumeric_all s W
 have HFAIL0 : Hid (∀ i, i < rs.length → okAt rs i = false → bM s rs t = false) := hid fun i hi ho => validR_no hi ho
 have HYES0 : Hid ((∀ i, i < rs.length → okAt rs i = true) → bM s rs t = ((s == 2 || s == 3) && (ap t.data.toList).isSome)) := hid validR_yes;have HB0 : Hid (Below w.heap.size w (w.alloc (.cells #[.int .i64 s, .slice ao rs.length cap, .string t] 26))) := hid ((Below.refl _ _).alloc (Nat.le_refl _) _);have HX0 := hid (heap_alloc_new w (.cells #[.int .i64 s, .slice ao rs.length cap, .string t] 26));obtain ⟨n, hn⟩ : ∃ n, rs.length = n := ⟨_, rfl⟩
 have HN := hid hn;obtain ⟨V, hV⟩ : ∃ V, bM s rs t = V := ⟨_, rfl⟩
 obtain ⟨bs, hbs⟩ : ∃ b, (s == 2 || s == 3) = b := ⟨_, rfl⟩
 obtain ⟨bt, hbt⟩ : ∃ b, (ap t.data.toList).isSome = b := ⟨_, rfl⟩
 rw [hn, hV] at HFAIL0;rw [hn, hV, hbs, hbt] at HYES0;rw [hbs] at hnu;rw [hbt] at hvc;have HFAIL := hid HFAIL0.out;have HYES := hid HYES0.out;have HNU := hid hnu;have HVC := hid hvc;rw [hn] at hle HB0 HX0;rw [hn, hV];clear hC hS hn hvc hnu hV hbs hbt HFAIL0 HYES0
 go_enter Tryz.func30, Tryz.ntmps30
 go_wp2_with fail
 generalize w.alloc (.cells #[.int .i64 s, .slice ao n cap, .string t] 26) = w1 at *;refine (HNU.out _).mono ?_;rintro e w2 ⟨rfl, rfl⟩;cases bs with
 | false =>
   have hno : V = false := by
    by_cases h : ∀ i, i < n → okAt rs i = true
    · rw [HYES.out h]; rfl
    · obtain ⟨i, hi⟩ := Classical.not_forall.1 h;obtain ⟨h1, h2⟩ := Classical.not_imp.1 hi;exact HFAIL.out i h1 (Bool.eq_false_iff.2 h2)
   subst hno
   go_wp2
   go_ret
   exact ⟨rfl, HB0.out⟩
 | true =>
   have x2 := aa HX0.out 2
   go_wp2_with fail
   refine (HVC.out _).mono ?_;rintro e w3 ⟨rfl, hb⟩;have HB3 := hid (HB0.out.trans (hb.mono HB0.out.size));have HX3 := hid ((hb.block _ (ab HX0.out)).trans HX0.out);clear hb x2 HB0 HX0;cases bt with
   | false =>
     have hno : V = false := by
      by_cases h : ∀ i, i < n → okAt rs i = true
      · rw [HYES.out h]; rfl
      · obtain ⟨i, hi⟩ := Classical.not_forall.1 h;obtain ⟨h1, h2⟩ := Classical.not_imp.1 hi;exact HFAIL.out i h1 (Bool.eq_false_iff.2 h2)
     subst hno
     go_wp2
     go_ret
     exact ⟨rfl, HB3.out⟩
   | true =>
     have x1 := aa HX3.out 1
     go_wp2_with fail
     clear x1
     go_loopg [3] n (fun gh iv wr => ∃ k : Nat, gh = n - k ∧ k ≤ n ∧ iv = .int .i64 k ∧ wr.heap[w.heap.size]? = some (.cells #[.int .i64 s, .slice ao n cap, .string t] 26 (0, 0)) ∧ Below w.heap.size w wr ∧ ∀ i, i < k → okAt rs i = true)
     case atStart => exact ⟨0, rfl, Nat.zero_le _, rfl, HX3.out, HB3.out, fun i hi => absurd hi (Nat.not_lt_zero i)⟩
     case round =>
      obtain ⟨k, rfl, hk, rfl, hx, hb, hall⟩ := hrel;have HX := hid hx;have HB := hid hb;have HALL := hid hall;have x0 := aa hx 0;have x1 := aa hx 1;have x2 := aa hx 2;clear hx hb hall HB3 HX3
      by_cases hlt : k < n
      · have had := HH.out.ad (by omega);subst had;have hlt' : k < rs.length := by rw [HN.out]; exact hlt
        have hsz := HSH.out.2.2 _ (List.getElem_mem hlt');have hlti : (k : Int) < (n : Int) := by omega
        have hki0 : (0 : Int) ≤ (k : Int) := by omega
        have c0 := (HH.out.far HB.out).nm k hlt';have c1 := (HH.out.far HB.out).nu k hlt';have hin := fun W => refName_any rs[k].1 W
        have hnv := fun W => refValid_any rs[k].2 W (by omega)
        have hok0 : ∀ h : k = 0, okAt rs k = (bK rs[k].1.toList && true && !(rs[k].2.toList == [48]) && (ap rs[k].2.data.toList).isSome) := fun h => by subst h; exact okAt_zero hlt'
        have hoks : ∀ j (h : k = j + 1), okAt rs k = (bK rs[k].1.toList && Op.bytesLess (rs[j]'(by omega)).1.toList rs[k].1.toList && !(rs[k].2.toList == [48]) && (ap rs[k].2.data.toList).isSome) := fun j h => by subst h; exact okAt_succ hlt'
        generalize rs[k] = x at *;obtain ⟨t0, t1⟩ := x
        dsimp only at *
        obtain ⟨b1, hb1⟩ : ∃ b, bK t0.toList = b := ⟨_, rfl⟩
        obtain ⟨b3, hb3⟩ : ∃ b, (t1.toList == [48]) = b := ⟨_, rfl⟩
        obtain ⟨b4, hb4⟩ : ∃ b, (ap t1.data.toList).isSome = b := ⟨_, rfl⟩
        rw [hb1] at hin hok0 hoks;rw [hb4] at hnv hok0 hoks;rw [hb3] at hok0 hoks;have HIN := hid hin;have HNV := hid hnv;have HNZ := hid hb3;have HOK0 := hid hok0;have HOKS := hid hoks;clear hin hnv hb1 hb3 hb4 hok0 hoks hsz
        go_wp2_with fail
        have C0 : ∀ W, Below wr.heap.size wr W → W.cell? ⟨g, off + k * 2, none⟩ = some (.string t0) := fun W hW => (hW.cell (World.block_lt_of_cell? _ _ c0)).trans c0
        have C1 : ∀ W, Below wr.heap.size wr W → W.cell? ⟨g, off + k * 2 + 1, none⟩ = some (.string t1) := fun W hW => (hW.cell (World.block_lt_of_cell? _ _ c1)).trans c1
        have C2 : ∀ W, Below wr.heap.size wr W → W.cell? ⟨w.heap.size, 1, none⟩ = some (.slice (some ⟨g, off, none⟩) n cap) := fun W hW => (hW.cell (World.block_lt_of_cell? _ _ x1)).trans x1
        have HBa := HB;have HXa := HX;have HC0 := hid C0;have HC1 := hid C1;have HC2 := hid C2;clear C0 C1 C2 x0 x1 x2 c0 c1
        by_cases hk0 : k = 0
        · subst hk0;have HOK := hid (HOK0.out rfl);clear HOK0 HOKS hlt'
          have hw5 : (b1 = false) ∨ (b1 = true ∧ b4 = false) ∨ (b1 = true ∧ b4 = true ∧ b3 = true) ∨ (b1 = true ∧ b4 = true ∧ b3 = false) := by
           clear HIN HNV HOK HNZ;cases b1 <;> cases b4 <;> cases b3 <;> simp
          rcases hw5 with rfl | ⟨rfl, rfl⟩ | ⟨rfl, rfl, rfl⟩ | ⟨rfl, rfl, rfl⟩
          iterate 3
           · have hnz := HNZ.out;have hno : V = false := HFAIL.out (0) (by omega) (by rw [HOK.out]; simp);subst hno;refine q_region (fun W => Below wr.heap.size wr W) (by kernel_rfl) (by kernel_rfl) (Below.refl _ _).drew ?_
             repeat (first
              | (refine q_skip ?_ ?_
                 · (go_simp; done)
                 simp only [Act.put, List.setIfInBounds_toArray, List.set_cons_zero, List.set_cons_succ])
              | (refine q_take (v := ?_) ?_ ?_ ?_
                 rotate_left
                 · (go_simp; done)
                 · intro W hW;have z0 := HC0.out W hW;have z1 := HC1.out W hW;have z2 := HC2.out W hW;rw [Nat.zero_mul, Nat.add_zero] at z0 z1
                   go_simp
                   first
                   | with_reducible rfl
                   | (go_at_call 73; refine (HIN.out W).mono ?_; rintro e u ⟨rfl, hb⟩; refine ⟨?_, hW.trans (hb.mono hW.size)⟩; with_reducible rfl)
                   | (go_at_call 72; refine (HNV.out W).mono ?_; rintro e u ⟨rfl, hb⟩; refine ⟨?_, hW.trans (hb.mono hW.size)⟩; with_reducible rfl)
                 simp only [Act.put, List.setIfInBounds_toArray, List.set_cons_zero, List.set_cons_succ])
              | (refine q_skip ?_ ?_
                 · (simp [Region.wanted, yielded, undef]; done)
                 simp only [Act.put, List.setIfInBounds_toArray, List.set_cons_zero, List.set_cons_succ]))
             refine q_nil ?_;intro w2 hw2;have HB2 := hid (HBa.out.trans (hw2.mono HBa.out.size));have HX2 := hid ((hw2.block _ (ab HXa.out)).trans HXa.out);clear hw2
             go_wp2
             go_ret
             exact ⟨rfl, HB2.out⟩
          · have hnz := HNZ.out;refine q_region (fun W => Below wr.heap.size wr W) (by kernel_rfl) (by kernel_rfl) (Below.refl _ _).drew ?_
            repeat (first
             | (refine q_skip ?_ ?_
                · (go_simp; done)
                simp only [Act.put, List.setIfInBounds_toArray, List.set_cons_zero, List.set_cons_succ])
             | (refine q_take (v := ?_) ?_ ?_ ?_
                rotate_left
                · (go_simp; done)
                · intro W hW;have z0 := HC0.out W hW;have z1 := HC1.out W hW;have z2 := HC2.out W hW;rw [Nat.zero_mul, Nat.add_zero] at z0 z1
                  go_simp
                  first
                  | with_reducible rfl
                  | (go_at_call 73; refine (HIN.out W).mono ?_; rintro e u ⟨rfl, hb⟩; refine ⟨?_, hW.trans (hb.mono hW.size)⟩; with_reducible rfl)
                  | (go_at_call 72; refine (HNV.out W).mono ?_; rintro e u ⟨rfl, hb⟩; refine ⟨?_, hW.trans (hb.mono hW.size)⟩; with_reducible rfl)
                simp only [Act.put, List.setIfInBounds_toArray, List.set_cons_zero, List.set_cons_succ])
             | (refine q_skip ?_ ?_
                · (simp [Region.wanted, yielded, undef]; done)
                simp only [Act.put, List.setIfInBounds_toArray, List.set_cons_zero, List.set_cons_succ]))
            refine q_nil ?_;intro w2 hw2;have HB2 := hid (HBa.out.trans (hw2.mono HBa.out.size));have HX2 := hid ((hw2.block _ (ab HXa.out)).trans HXa.out);clear hw2
            go_wp2
            go_roundg (n - (0 + 1))
            case rel =>
             refine ⟨0 + 1, rfl, by omega, by go_num, HX2.out, HB2.out, fun i hi => ?_⟩
             by_cases hik : i = 0
             · rw [hik, HOK.out]; rfl
             · exact HALL.out i (by omega)
            case measure => omega
        · obtain ⟨j, hjk⟩ : ∃ j, k = j + 1 := ⟨k - 1, by omega⟩
          have hjl : j < rs.length := by rw [HN.out]; omega
          have hok := HOKS.out j hjk;have p0 := (HH.out.far HBa.out).nm j hjl;obtain ⟨tp, htp⟩ : ∃ t, (rs[j]'hjl).1 = t := ⟨_, rfl⟩
          rw [htp] at p0 hok;obtain ⟨b2, hb2⟩ : ∃ b, Op.bytesLess tp.toList t0.toList = b := ⟨_, rfl⟩
          rw [hb2] at hok;have C3 : ∀ W, Below wr.heap.size wr W → W.cell? ⟨g, off + j * 2, none⟩ = some (.string tp) := fun W hW => (hW.cell (World.block_lt_of_cell? _ _ p0)).trans p0
          have HC3 := hid C3;have HLS := hid hb2;have HOK : Hid (okAt rs (j + 1) = (b1 && b2 && !b3 && b4)) := hid (by rw [← hjk]; exact hok);have d1 : decide ((0 : Int) < (k : Int)) = true := decide_eq_true (by omega);have d0 : (0 : Int) < (k : Int) := by omega
          have d2 : 0 < k := by omega
          have d3 : decide (0 < k) = true := decide_eq_true d2;have hw1 : IntKind.i64.wrap ((k : Int) - 1) = (j : Int) := by rw [IntKind.wrap_i64]; omega
          have e3 : (0 : Int) ≤ (j : Int) := by omega
          have e4 : (j : Int) < (n : Int) := by omega
          have hkj : n - k = n - (j + 1) := by omega
          have HKJ := hid hjk;clear C3 p0 htp hjl hok hb2 hjk hk0 HOK0 HOKS hkj
          have hw5 : (b1 = false) ∨ (b1 = true ∧ b4 = false) ∨ (b1 = true ∧ b4 = true ∧ b3 = true) ∨ (b1 = true ∧ b4 = true ∧ b3 = false ∧ b2 = false) ∨ (b1 = true ∧ b4 = true ∧ b3 = false ∧ b2 = true) := by
           clear HIN HNV HOK HLS HNZ;cases b1 <;> cases b4 <;> cases b3 <;> cases b2 <;> simp
          rcases hw5 with rfl | ⟨rfl, rfl⟩ | ⟨rfl, rfl, rfl⟩ | ⟨rfl, rfl, rfl, rfl⟩ | ⟨rfl, rfl, rfl, rfl⟩
          iterate 4
           · have hnz := HNZ.out;have hls := HLS.out;have hno : V = false := HFAIL.out (j + 1) (by have := HKJ.out; omega) (by rw [HOK.out]; simp);subst hno;refine q_region (fun W => Below wr.heap.size wr W) (by kernel_rfl) (by kernel_rfl) (Below.refl _ _).drew ?_
             repeat (first
              | (refine q_skip ?_ ?_
                 · (go_simp; done)
                 simp only [Act.put, List.setIfInBounds_toArray, List.set_cons_zero, List.set_cons_succ])
              | (refine q_take (v := ?_) ?_ ?_ ?_
                 rotate_left
                 · (go_simp; done)
                 · intro W hW;have z0 := HC0.out W hW;have z1 := HC1.out W hW;have z2 := HC2.out W hW;have z3 := HC3.out W hW
                   go_simp
                   first
                   | with_reducible rfl
                   | (go_at_call 73; refine (HIN.out W).mono ?_; rintro e u ⟨rfl, hb⟩; refine ⟨?_, hW.trans (hb.mono hW.size)⟩; with_reducible rfl)
                   | (go_at_call 72; refine (HNV.out W).mono ?_; rintro e u ⟨rfl, hb⟩; refine ⟨?_, hW.trans (hb.mono hW.size)⟩; with_reducible rfl)
                 simp only [Act.put, List.setIfInBounds_toArray, List.set_cons_zero, List.set_cons_succ])
              | (refine q_skip ?_ ?_
                 · (simp [Region.wanted, yielded, undef]; done)
                 simp only [Act.put, List.setIfInBounds_toArray, List.set_cons_zero, List.set_cons_succ]))
             refine q_nil ?_;intro w2 hw2;have HB2 := hid (HBa.out.trans (hw2.mono HBa.out.size));have HX2 := hid ((hw2.block _ (ab HXa.out)).trans HXa.out);clear hw2
             go_wp2
             go_ret
             exact ⟨rfl, HB2.out⟩
          · have hnz := HNZ.out;have hls := HLS.out;refine q_region (fun W => Below wr.heap.size wr W) (by kernel_rfl) (by kernel_rfl) (Below.refl _ _).drew ?_
            repeat (first
             | (refine q_skip ?_ ?_
                · (go_simp; done)
                simp only [Act.put, List.setIfInBounds_toArray, List.set_cons_zero, List.set_cons_succ])
             | (refine q_take (v := ?_) ?_ ?_ ?_
                rotate_left
                · (go_simp; done)
                · intro W hW;have z0 := HC0.out W hW;have z1 := HC1.out W hW;have z2 := HC2.out W hW;have z3 := HC3.out W hW
                  go_simp
                  first
                  | with_reducible rfl
                  | (go_at_call 73; refine (HIN.out W).mono ?_; rintro e u ⟨rfl, hb⟩; refine ⟨?_, hW.trans (hb.mono hW.size)⟩; with_reducible rfl)
                  | (go_at_call 72; refine (HNV.out W).mono ?_; rintro e u ⟨rfl, hb⟩; refine ⟨?_, hW.trans (hb.mono hW.size)⟩; with_reducible rfl)
                simp only [Act.put, List.setIfInBounds_toArray, List.set_cons_zero, List.set_cons_succ])
             | (refine q_skip ?_ ?_
                · (simp [Region.wanted, yielded, undef]; done)
                simp only [Act.put, List.setIfInBounds_toArray, List.set_cons_zero, List.set_cons_succ]))
            refine q_nil ?_;intro w2 hw2;have HB2 := hid (HBa.out.trans (hw2.mono HBa.out.size));have HX2 := hid ((hw2.block _ (ab HXa.out)).trans HXa.out);clear hw2
            go_wp2
            go_roundg (n - (k + 1))
            case rel =>
             refine ⟨k + 1, rfl, by omega, by go_num, HX2.out, HB2.out, fun i hi => ?_⟩
             by_cases hik : i = j + 1
             · rw [hik, HOK.out]; rfl
             · exact HALL.out i (by have := HKJ.out; omega)
            case measure => omega
      · obtain rfl : k = n := by omega
        have hlti : ¬ ((k : Int) < (k : Int)) := by omega
        have hyes : V = true := by rw [HYES.out HALL.out]; rfl
        subst hyes
        go_wp2
        go_ret
        exact ⟨rfl, HB.out⟩
end
end Go.Proofs.YteoklapcifonaaaGreatDoor
/- small; ValidConstraint of the program and of the reference at any texts. -/
namespace Go.Proofs.YteoklapcifonaaaGreatDoor
open Go.RowKit Nmx
/-- a text is one of an integer; the sign of its number -/
def intB (t : ByteArray) : Bool := match ap t.data.toList with | some q => decide (q.den = 1) | none => false
def sgB (t : ByteArray) : Int := bc ((ap t.data.toList).getD 0).num
/-- a constraint is valid -/
def conV (V : Bool) (r s : Int) (tm : ByteArray) : Bool := V && (if r = 1 ∨ r = 2 ∨ r = 3 then tm.toList == [] else if r = 4 ∨ r = 5 then s == 2 && intB tm && decide (0 < sgB tm) else false)
/-- the statement's own bound -/
def smallF (rs : List (ByteArray × ByteArray)) (t : ByteArray) : Bool := decide (rs.length ≤ 8) && decide (t.size ≤ 40) && rs.all fun x => decide (x.1.size ≤ 60) && decide (x.2.size ≤ 40)
theorem smallF_shrt {rs : List (ByteArray × ByteArray)} {t : ByteArray} (h : smallF rs t = true) : Shrt rs t := by
 unfold smallF at h;rw [Bool.and_eq_true, Bool.and_eq_true, List.all_eq_true] at h;refine ⟨of_decide_eq_true h.1.1, of_decide_eq_true h.1.2, fun x hx => ?_⟩;have := h.2 x hx;rw [Bool.and_eq_true] at this;exact ⟨of_decide_eq_true this.1, of_decide_eq_true this.2⟩
theorem smallF_no {rs : List (ByteArray × ByteArray)} {t : ByteArray} {x : ByteArray × ByteArray} (hx : x ∈ rs) (h : 60 < x.1.size ∨ 40 < x.2.size) : smallF rs t = false := by
 unfold smallF;rw [Bool.and_eq_false_iff];refine .inr (List.all_eq_false.2 ⟨x, hx, ?_⟩);rcases h with h | h
 · rw [decide_eq_false (by omega)]; simp
 · rw [decide_eq_false (show ¬ x.2.size ≤ 40 by omega)]; simp
section
set_option maxRecDepth 100000
set_option maxHeartbeats 8000000
theorem small_any {w : World} {s : Int} {ao : Option Addr} {g off cap : Nat} {rs : List (ByteArray × ByteArray)} {t : ByteArray} (hC : RSl w ao g off cap rs) :
    Calls Tryz.prog 28 #[.agg #[.int .i64 s, .slice ao rs.length cap, .string t]] w fun e w' => e = .returned (.bool (smallF rs t)) ∧ Below w.heap.size w w' := by
 have hle := hC.le;have hmost := hC.most;have HH := hid hC;have HNO : Hid (∀ i (h : i < rs.length), 60 < rs[i].1.size ∨ 40 < rs[i].2.size → smallF rs t = false) := hid fun i h => smallF_no (List.getElem_mem h)
 have HL : Hid (8 < rs.length ∨ 40 < t.size → smallF rs t = false) := hid fun h => by
  unfold smallF;rcases h with h | h
  · rw [decide_eq_false (by omega)]; rfl
  · rw [decide_eq_false (show ¬ t.size ≤ 40 by omega), Bool.and_false]; rfl
 have HYES : Hid (rs.length ≤ 8 → t.size ≤ 40 → (∀ i (h : i < rs.length), rs[i].1.size ≤ 60 ∧ rs[i].2.size ≤ 40) → smallF rs t = true) := hid fun h1 h2 h3 => by
  unfold smallF;rw [decide_eq_true h1, decide_eq_true h2, Bool.true_and, Bool.true_and, List.all_eq_true];intro x hx;obtain ⟨i, hi, rfl⟩ := List.getElem_of_mem hx;rw [decide_eq_true (h3 i hi).1, decide_eq_true (h3 i hi).2]; rfl
 have HB := hid (alloc_far w (.cells #[.int .i64 s, .slice ao rs.length cap, .string t] 26));have HX := hid (heap_alloc_new w (.cells #[.int .i64 s, .slice ao rs.length cap, .string t] 26));obtain ⟨V, hV⟩ : ∃ V, smallF rs t = V := ⟨_, rfl⟩
 rw [hV] at HNO HL HYES ⊢;obtain ⟨n, hn⟩ : ∃ n, rs.length = n := ⟨_, rfl⟩
 have HN := hid hn;rw [hn] at hle HB HX;rw [hn];clear hC hn hV
 go_enter Tryz.func28, Tryz.ntmps28
 by_cases h8 : 8 < n
 · have hi8 : (8 : Int) < (n : Int) := by omega
   obtain rfl : false = V := (HL.out (.inl (by rw [HN.out]; exact h8))).symm
   go_wp2
   go_ret
   exact ⟨rfl, HB.out⟩
 have hi8 : ¬ (8 : Int) < (n : Int) := by omega
 by_cases h40 : 40 < t.size
 · have hi40 : (40 : Int) < (t.size : Int) := by omega
   obtain rfl : false = V := (HL.out (.inr h40)).symm
   go_wp2
   go_ret
   exact ⟨rfl, HB.out⟩
 have hi40 : ¬ (40 : Int) < (t.size : Int) := by omega
 go_wp2_with fail
 generalize w.alloc (.cells #[.int .i64 s, .slice ao n cap, .string t] 26) = w1 at *
 go_loopg [3] n (fun gh iv wr => ∃ k : Nat, gh = n - k ∧ k ≤ n ∧ iv = .int .i64 k ∧ wr = w1 ∧ ∀ i (h : i < rs.length), i < k → rs[i].1.size ≤ 60 ∧ rs[i].2.size ≤ 40)
 case atStart => exact ⟨0, rfl, Nat.zero_le _, rfl, rfl, fun i _ hi => absurd hi (Nat.not_lt_zero i)⟩
 case round =>
  obtain ⟨k, rfl, hk, rfl, rfl, hall⟩ := hrel;have HALL := hid hall;clear hall;have x1 := aa HX.out 1;have hki0 : (0 : Int) ≤ (k : Int) := by omega
  by_cases hlt : k < n
  · have had := HH.out.ad (by omega);subst had;have hl : k < rs.length := by rw [HN.out]; exact hlt
    have hlti : (k : Int) < (n : Int) := by omega
    have c0 := (HH.out.far HB.out).nm k hl;have c1 := (HH.out.far HB.out).nu k hl;have hno := HNO.out k hl
    have hst : ∀ i (h : i < rs.length), i < k + 1 → (rs[k]'hl).1.size ≤ 60 → (rs[k]'hl).2.size ≤ 40 → rs[i].1.size ≤ 60 ∧ rs[i].2.size ≤ 40 := fun i h hi h1 h2 => by
     by_cases hik : i = k
     · subst hik; exact ⟨h1, h2⟩
     · exact HALL.out i h (by omega)
    have HST := hid hst;clear hst;generalize rs[k] = x at *;obtain ⟨t0, t1⟩ := x
    dsimp only at *
    by_cases h60 : 60 < t0.size
    · have hi60 : (60 : Int) < (t0.size : Int) := by omega
      obtain rfl : false = V := (hno (.inl h60)).symm;clear hno
      go_wp2
      go_ret
      exact ⟨rfl, HB.out⟩
    have hi60 : ¬ (60 : Int) < (t0.size : Int) := by omega
    by_cases h41 : 40 < t1.size
    · have hi41 : (40 : Int) < (t1.size : Int) := by omega
      obtain rfl : false = V := (hno (.inr h41)).symm;clear hno
      go_wp2
      go_ret
      exact ⟨rfl, HB.out⟩
    have hi41 : ¬ (40 : Int) < (t1.size : Int) := by omega
    clear hno
    go_wp2
    go_roundg (n - (k + 1))
    case rel => exact ⟨k + 1, rfl, by omega, by go_num, rfl, fun i h hi => HST.out i h hi (by omega) (by omega)⟩
    case measure => omega
  · obtain rfl : k = n := by omega
    have hlti : ¬ ((k : Int) < (k : Int)) := by omega
    obtain rfl : true = V := (HYES.out (by rw [HN.out]; omega) (by omega) (fun i h => HALL.out i h (by rw [← HN.out]; exact h))).symm
    go_wp2
    go_ret
    exact ⟨rfl, HB.out⟩
theorem con_all :
    (∀ {w : World} {r s : Int} {ao : Option Addr} {n cap : Nat} {t tm : ByteArray} {V : Bool} (_ : ∀ W, Below w.heap.size w W → Calls Tryz.prog 29 #[.agg #[.int .i64 s, .slice ao n cap, .string t]] W fun e w' => e = .returned (.bool V) ∧ Below W.heap.size W w') (_ : tm.size ≤ 1000) (_ : Env w), Calls Tryz.prog 31 #[.agg #[.int .i64 r, .int .i64 s, .slice ao n cap, .string t, .string tm]] w fun e w' => e = .returned (.bool (conV V r s tm)) ∧ Below w.heap.size w w') ∧
    (∀ {w : World} {r s : Int} {ao : Option Addr} {n cap : Nat} {t tm : ByteArray} {V : Bool} (_ : ∀ W, Below w.heap.size w W → Calls Tryz.prog 30 #[.agg #[.int .i64 s, .slice ao n cap, .string t]] W fun e w' => e = .returned (.bool V) ∧ Below W.heap.size W w') (_ : tm.size ≤ 1000), Calls Tryz.prog 32 #[.agg #[.int .i64 r, .int .i64 s, .slice ao n cap, .string t, .string tm]] w fun e w' => e = .returned (.bool (conV V r s tm)) ∧ Below w.heap.size w w') := by
 refine ⟨?g1, ?g2⟩
 case' g1 =>
  intro w r s ao n cap t tm V hv hm hE;have hi : ∀ W, Below w.heap.size w W → Calls Tryz.prog 25 #[.string tm] W fun e w' => e = .returned (.bool (intB tm)) ∧ Below W.heap.size W w' := fun W (hW : Below w.heap.size w W) => numIsInt_any tm W (by omega) (hE.far hW) (gcdAt_any (by rw [size_data]; omega))
  have hg : ∀ W, Below w.heap.size w W → Calls Tryz.prog 74 #[.string tm] W fun e w' => e = .returned (.int .i64 (sgB tm)) ∧ Below W.heap.size W w' := fun W (hW : Below w.heap.size w W) => numSign_any tm W (by omega) (hE.far hW) (gcdAt_any (by rw [size_data]; omega))
 case' g2 =>
  intro w r s ao n cap t tm V hv hm;have hi : ∀ W, Below w.heap.size w W → Calls Tryz.prog 41 #[.string tm] W fun e w' => e = .returned (.bool (intB tm)) ∧ Below W.heap.size W w' := fun W (_ : Below w.heap.size w W) => bH tm W (by omega)
  have hg : ∀ W, Below w.heap.size w W → Calls Tryz.prog 75 #[.string tm] W fun e w' => e = .returned (.int .i64 (sgB tm)) ∧ Below W.heap.size W w' := fun W (_ : Below w.heap.size w W) => refSign_any tm W (by omega)
 all_goals
  have hem : tm.toList.isEmpty = (tm.toList == []) := by cases tm.toList <;> rfl
  unfold conV;obtain ⟨bi, hbi⟩ : ∃ b, intB tm = b := ⟨_, rfl⟩
  obtain ⟨sg, hsg⟩ : ∃ b, sgB tm = b := ⟨_, rfl⟩
  obtain ⟨be, hbe⟩ : ∃ b, (tm.toList == []) = b := ⟨_, rfl⟩
  rw [hbi] at hi ⊢;rw [hsg] at hg ⊢;rw [hbe] at hem ⊢;obtain ⟨VV, hVV⟩ : ∃ b, (V && (if r = 1 ∨ r = 2 ∨ r = 3 then be else if r = 4 ∨ r = 5 then s == 2 && bi && decide (0 < sg) else false)) = b := ⟨_, rfl⟩
  rw [hVV];have HV := hid hv;have HI := hid hi;have HG := hid hg;have HEM := hid hem;have HBE := hid hbe;have HVV := hid hVV;have HA := hid (heap_alloc_new w (.cells #[.int .i64 r, .int .i64 s, .slice ao n cap, .string t, .string tm] 39));have HB := hid (alloc_far w (.cells #[.int .i64 r, .int .i64 s, .slice ao n cap, .string t, .string tm] 39))
 case' g1 =>
  clear hv hi hg hem hbe hVV hbi hsg hE
  go_enter Tryz.func31, Tryz.ntmps31
 case' g2 =>
  clear hv hi hg hem hbe hVV hbi hsg
  go_enter Tryz.func32, Tryz.ntmps32
 all_goals
  go_wp2_with fail
  refine (HV.out _ HB.out).mono ?_;rintro e w1 ⟨rfl, hb⟩;replace HA := hid ((hb.block _ (ab HA.out)).trans HA.out);replace HB := hid (HB.out.trans (hb.mono HB.out.size));clear hb HV;cases V with
  | false =>
    obtain rfl : false = VV := by rw [← HVV.out]; rfl
    go_wp2
    go_ret
    exact ⟨rfl, HB.out⟩
  | true =>
    have hvv := HVV.out;rw [Bool.true_and] at hvv;have p0 := aa HA.out 0;have p1 := aa HA.out 1;have p4 := aa HA.out 4
    by_cases h1 : r = 1 ∨ r = 2 ∨ r = 3
    · rw [if_pos h1] at hvv;subst hvv;have he1 := HEM.out;have he2 := HBE.out;rcases h1 with rfl | rfl | rfl
      all_goals
       go_wp2
       go_ret
       exact ⟨rfl, HB.out⟩
    · rw [if_neg h1] at hvv
      by_cases h4 : r = 4 ∨ r = 5
      · rw [if_pos h4] at hvv;have HW := hid hvv;clear hvv h1
        by_cases hs : s = 2
        · subst hs;rcases h4 with rfl | rfl
          all_goals
           go_wp2_with fail
           refine (HI.out _ HB.out).mono ?_;rintro e w2 ⟨rfl, hb⟩;replace HA := hid ((hb.block _ (ab HA.out)).trans HA.out);replace HB := hid (HB.out.trans (hb.mono HB.out.size));clear hb p0 p1 p4;have p4 := aa HA.out 4;cases bi with
           | false =>
             obtain rfl : false = VV := by rw [← HW.out]; rfl
             go_wp2
             go_ret
             exact ⟨rfl, HB.out⟩
           | true =>
             have hw2 : decide (0 < sg) = VV := by rw [← HW.out]; rfl
             go_wp2_with fail
             refine (HG.out _ HB.out).mono ?_;rintro e w3 ⟨rfl, hb⟩;replace HB := hid (HB.out.trans (hb.mono HB.out.size));clear hb p4 HA;have HW2 := hid hw2;clear hw2
             go_wp2
             go_ret
             exact ⟨by rw [← HW2.out]; rfl, HB.out⟩
        · have hs1 : (s == 2) = false := by rw [beq_eq_false_iff_ne]; exact hs
          have hs2 : decide (s = 2) = false := decide_eq_false hs;obtain rfl : false = VV := by rw [← HW.out, hs1]; rfl
          rcases h4 with rfl | rfl
          all_goals
           go_wp2
           go_ret
           exact ⟨rfl, HB.out⟩
      · rw [if_neg h4] at hvv;subst hvv;have q1 : (r == 1) = false := by rw [beq_eq_false_iff_ne]; omega
        have q2 : (r == 2) = false := by rw [beq_eq_false_iff_ne]; omega
        have q3 : (r == 3) = false := by rw [beq_eq_false_iff_ne]; omega
        have q4 : (r == 4) = false := by rw [beq_eq_false_iff_ne]; omega
        have q5 : (r == 5) = false := by rw [beq_eq_false_iff_ne]; omega
        have d1 : decide (r = 1) = false := decide_eq_false (by omega);have d2 : decide (r = 2) = false := decide_eq_false (by omega);have d3 : decide (r = 3) = false := decide_eq_false (by omega);have d4 : decide (r = 4) = false := decide_eq_false (by omega);have d5 : decide (r = 5) = false := decide_eq_false (by omega);clear h1 h4
        go_wp2
        go_ret
        exact ⟨rfl, HB.out⟩
end
end Go.Proofs.YteoklapcifonaaaGreatDoor

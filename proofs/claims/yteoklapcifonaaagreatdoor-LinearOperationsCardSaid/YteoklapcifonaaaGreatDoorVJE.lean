/- linear.Add and the reference's AddLinear at any two expressions. -/
import Derived.Test.YteoklapcifonaaaGreatDoorVJA
import Derived.Test.YteoklapcifonaaaGreatDoorVTM
import Derived.Test.YteoklapcifonaaaGreatDoorVJB
import Derived.Test.YteoklapcifonaaaGreatDoorVHB
open Go.Lib (hid)
namespace Go.Proofs.YteoklapcifonaaaGreatDoor
open Go.RowKit Nmx
open Go.Lib (compareBytes)
/-- what a sum of two expressions is: an error, or the sum -/
def AddP (U : List (List UInt8)) (V : Bool) (s1 s2 : Int) (d : Nat) (c : Rat) (f : List UInt8 → Rat) (w : World) (e : Ending) (w' : World) : Prop :=
 (V = false ∧ e = .returned (.tuple #[zeroLV, .int .i64 1]) ∧ Below w.heap.size w w') ∨
 (V = true ∧ s1 ≠ s2 ∧ e = .returned (.tuple #[zeroLV, .int .i64 3]) ∧ Below w.heap.size w w') ∨
 (V = true ∧ s1 = s2 ∧ ∃ rs ao g off cap, e = .returned (.tuple #[.agg #[.int .i64 s1, .slice ao rs.length cap, .string (TX c)], .int .i64 0]) ∧ CSl w' ao g off cap rs ∧ (rs = [] ∨ ∃ cur fr, w'.heap[g]? = some (.cells cur 79 fr)) ∧ GoodU U d rs ∧ DS d c ∧ (∀ n, cof rs n = f n) ∧ Below w.heap.size w w')
section
set_option maxRecDepth 100000
set_option maxHeartbeats 8000000
theorem addR {U : List (List UInt8)} {d : Nat} {w : World} {s1 s2 : Int} {a1 a2 : Option Addr} {n1 c1 n2 c2 : Nat} {t1 t2 : ByteArray} {c : Rat} {f : List UInt8 → Rat} {B1 B2 : Bool}
    (hv1 : ∀ W, Below w.heap.size w W → Calls Tryz.prog 29 #[.agg #[.int .i64 s1, .slice a1 n1 c1, .string t1]] W fun e w' => e = .returned (.bool B1) ∧ Below W.heap.size W w')
    (hv2 : ∀ W, Below w.heap.size w W → Calls Tryz.prog 29 #[.agg #[.int .i64 s2, .slice a2 n2 c2, .string t2]] W fun e w' => e = .returned (.bool B2) ∧ Below W.heap.size W w')
    (hcb : B1 = true → B2 = true → s1 = s2 → ∀ W u, Below w.heap.size w W → RV W u 1 → Calls Tryz.prog 52 #[.agg #[.int .i64 s1, .slice a1 n1 c1, .string t1], .agg #[.int .i64 s2, .slice a2 n2 c2, .string t2], u] W (GetsU U s1 d c f W)) :
    Calls Tryz.prog 17 #[.agg #[.int .i64 s1, .slice a1 n1 c1, .string t1], .agg #[.int .i64 s2, .slice a2 n2 c2, .string t2]] w (AddP U (B1 && B2) s1 s2 d c f w) := by
 obtain ⟨m1, m2, m3, mb⟩ := newL3 w (.cells #[.int .i64 s1, .slice a1 n1 c1, .string t1] 26) (.cells #[.int .i64 s2, .slice a2 n2 c2, .string t2] 26) (.cells #[.int .i64 0, .slice none 0 0, .string ⟨#[]⟩] 26);have HK := hid (⟨m1, m2, m3, mb⟩ : AB w _ s1 s2 a1 n1 c1 t1 a2 n2 c2 t2);have HV1 := hid hv1;have HV2 := hid hv2;have HCB := hid hcb;clear m1 m2 m3 mb hv1 hv2 hcb
 go_enter Tryz.func17, Tryz.ntmps17
 go_wp2_with fail
 generalize ((w.alloc (.cells #[.int .i64 s1, .slice a1 n1 c1, .string t1] 26)).alloc (.cells #[.int .i64 s2, .slice a2 n2 c2, .string t2] 26)).alloc (.cells #[.int .i64 0, .slice none 0 0, .string ⟨#[]⟩] 26) = w3 at *;refine (HV1.out _ HK.out.bel).mono ?_;rintro e w4 ⟨rfl, hb⟩;have HK4 := hid (HK.out.far hb);clear hb HK;have q0 := heap_cell HK4.out.b 0;have q1 := heap_cell HK4.out.b 1;have q2 := heap_cell HK4.out.b 2;have r0 := heap_cell HK4.out.r 0;have r1 := heap_cell HK4.out.r 1;have r2 := heap_cell HK4.out.r 2;have fr := fun i => heap_fz HK4.out.r i
 cases B1 with
 | false =>
   go_wp2_with fail
   refine end_linE rfl rfl rfl rfl (set3_heap HK4.out.r) ?_;exact .inl ⟨rfl, rfl, ((HK4.out.bel.setCell (show w.heap.size ≤ w.heap.size + 2 by omega) _).setCell (show w.heap.size ≤ w.heap.size + 2 by omega) _).setCell (show w.heap.size ≤ w.heap.size + 2 by omega) _⟩
 | true =>
   clear r0 r1 r2 fr
   go_wp2_with fail
   refine (HV2.out _ HK4.out.bel).mono ?_;rintro e w5 ⟨rfl, hb⟩;have HK5 := hid (HK4.out.far hb);clear hb q0 q1 q2 HK4;have r0 := heap_cell HK5.out.r 0;have r1 := heap_cell HK5.out.r 1;have r2 := heap_cell HK5.out.r 2;have fr := fun i => heap_fz HK5.out.r i
   have p0 := heap_cell HK5.out.a 0;have q0 := heap_cell HK5.out.b 0;cases B2 with
   | false =>
     go_wp2_with fail
     refine end_linE rfl rfl rfl rfl (set3_heap HK5.out.r) ?_;exact .inl ⟨rfl, rfl, ((HK5.out.bel.setCell (show w.heap.size ≤ w.heap.size + 2 by omega) _).setCell (show w.heap.size ≤ w.heap.size + 2 by omega) _).setCell (show w.heap.size ≤ w.heap.size + 2 by omega) _⟩
   | true =>
     by_cases hs : s1 = s2
     · have hse : (s1 == s2) = true := by rw [hs]; exact beq_self_eq_true _
       have hsn : (s1 != s2) = false := by rw [bne, hse]; rfl
       have hsd : decide (s1 = s2) = true := decide_eq_true hs;have HCC := hid (HCB.out (by simp) (by simp) hs);have HS := hid hs;clear hs;have p1 := heap_cell HK5.out.a 1;clear p1
       go_wp2_with fail
       refine add_region [[], [], [], [0, 1, 2], [0, 1, 2, 3], [0, 1, 2, 3, 4]] (fun W => AB w W s1 s2 a1 n1 c1 t1 a2 n2 c2 t2) (fun _ => True) ?_
       iterate 2
        apply a_con
        · intro x; go_simp; done
        · intro x W R hW hF hR;have p1 := heap_cell hW.a 1;have p2 := heap_cell hW.a 2;have p0' := heap_cell hW.a 0;have q1 := heap_cell hW.b 1;have q2 := heap_cell hW.b 2;have q0' := heap_cell hW.b 0;clear hF;unfold addAt
          go_simp
          simp only [addUpon];exact hR _ (Below.refl _ _)
        simp only [Act.put, List.setIfInBounds_toArray, List.set_cons_zero, List.set_cons_succ]
       refine a_opq (fun v W => RV W v 1) (fun _ _ _ h hb => h.far hb) ?_ ?_ ?_
       · intro x; go_simp; done
       · intro x W R hW hF hR;clear hF;unfold addAt
         go_simp
         simp only [addUpon];refine (oneQ W).mono ?_;rintro e w' ⟨v, rfl, hv, hb⟩;exact ⟨v, rfl, hR _ _ hv hb⟩
       simp only [Act.put, List.setIfInBounds_toArray, List.set_cons_zero, List.set_cons_succ, List.length_cons, List.length_nil, Nat.zero_add, Nat.reduceAdd];refine a_opq (fun v W => ∃ (rs : List (List UInt8 × Rat)) (ao : Option Addr) (g cap : Nat), v = .agg #[.int .i64 s1, .slice ao rs.length cap, .string (TX c)] ∧ CSl W ao g 0 cap rs ∧ (rs = [] ∨ ∃ cur fr, W.heap[g]? = some (.cells cur 79 fr)) ∧ GoodU U d rs ∧ DS d c ∧ (∀ n, cof rs n = f n)) (fun _ _ _ h hb => let ⟨_, _, _, _, h1, h2, h3, h4, h5, h6⟩ := h; ⟨_, _, _, _, h1, h2.far hb, h3.imp id fun ⟨_, _, h⟩ => ⟨_, _, (hb.block _ (lt_of_heap h)).trans h⟩, h4, h5, h6⟩) ?_ ?_ ?_
       · intro x; go_simp; done
       · intro x W R hW hF hR;have hu := hF.1.2 rfl rfl rfl;simp only [AK.fact] at hu;clear hF;unfold addAt
         go_simp
         simp only [addUpon];refine (HCC.out W _ hW.bel hu).mono ?_;rintro e w' ⟨rs, ao, g, cap, rfl, h2, h3, h4, h5, h6, hb⟩;exact ⟨_, rfl, hR _ _ ⟨rs, ao, g, cap, rfl, h2, h3, h4, h5, h6⟩ hb⟩
       simp only [Act.put, List.setIfInBounds_toArray, List.set_cons_zero, List.set_cons_succ, List.length_cons, List.length_nil, Nat.zero_add, Nat.reduceAdd];refine a_wrt (fun _ W => ∃ (rs : List (List UInt8 × Rat)) (ao : Option Addr) (g cap : Nat), W.heap[w.heap.size + 2]? = some (.cells #[.int .i64 s1, .slice ao rs.length cap, .string (TX c)] 26 (0, 0)) ∧ CSl W ao g 0 cap rs ∧ (rs = [] ∨ ∃ cur fr, W.heap[g]? = some (.cells cur 79 fr)) ∧ GoodU U d rs ∧ DS d c ∧ (∀ n, cof rs n = f n) ∧ Below w.heap.size w W) (fun _ _ _ h hb => by obtain ⟨rs, ao, g, cap, h1, h2, h3, h4, h5, h6, h7⟩ := h; exact ⟨rs, ao, g, cap, (hb.block _ (lt_of_heap h1)).trans h1, h2.far hb, h3.imp id fun ⟨_, _, h⟩ => ⟨_, _, (hb.block _ (lt_of_heap h)).trans h⟩, h4, h5, h6, h7.trans (hb.mono h7.size)⟩) (fun _ _ _ _ h => h) ?_ ?_ ?_
       · intro x; go_simp; done
       · intro x W R hW hF hD hR;have hL := hF.1.2 rfl rfl rfl;simp only [AK.fact] at hL;obtain ⟨rs, ao, g, cap, hx, h2, h3, h4, h5, h6⟩ := hL;have H2 := hid h2;have H3 := hid h3;have H4 := hid h4;have H5 := hid h5;have H6 := hid h6;simp only [hx];clear hF h2 h3 h4 h5 h6 hx;have z0 := heap_cell hW.r 0;have z1 := heap_cell hW.r 1;have z2 := heap_cell hW.r 2;have fr := fun i => heap_fz hW.r i
         unfold addAt
         go_simp
         simp only [addUpon];have hc := csl_but H2.out H3.out hW.r (by decide) fun g hg => set3_other (.int .i64 s1) (.slice ao rs.length cap) (.string (TX c)) hg
         refine hR _ _ ⟨rs, ao, g, cap, set3_heap hW.r, hc.1, hc.2, H4.out, H5.out, H6.out, ?_⟩ trivial (by simp [World.setCell]);exact ((hW.bel.setCell (show w.heap.size ≤ w.heap.size + 2 by omega) _).setCell (show w.heap.size ≤ w.heap.size + 2 by omega) _).setCell (show w.heap.size ≤ w.heap.size + 2 by omega) _
       simp only [Act.put];apply a_late
       · intro x; go_simp; done
       · intro x W R hW hF hR;clear hF hW;unfold addAt
         go_simp
         simp only [addUpon];exact hR _ (Below.refl _ _)
       simp only [Act.put, List.setIfInBounds_toArray, List.set_cons_zero, List.set_cons_succ];refine a_nil (by kernel_rfl) (by kernel_rfl) (by kernel_rfl) (fun _ _ h hb => h.far hb) (fun _ _ _ _ => trivial) (fun _ _ => trivial) (HK5.out.far (Below.refl _ _).drew) ?_;intro x W hE hW hF hD;clear hD;obtain ⟨rs, ao, g, cap, h1, h2, h3, h4, h5, h6, h7⟩ := hF.2.1.2 rfl;have H1 := hid h1;have H2 := hid h2;have H3 := hid h3;have H4 := hid h4;have H5 := hid h5;have H6 := hid h6;have H7 := hid h7;clear hF hW h1 h2 h3 h4 h5 h6 h7
       go_wp2_with fail
       refine end_linE rfl rfl rfl rfl H1.out ?_;exact .inr (.inr ⟨rfl, HS.out, rs, ao, g, 0, cap, rfl, H2.out, H3.out, H4.out, H5.out, H6.out, H7.out⟩)
     · have hse : (s1 == s2) = false := beq_eq_false_iff_ne.2 hs;have hsn : (s1 != s2) = true := by rw [bne, hse]; rfl
       have hsd : decide (s1 = s2) = false := decide_eq_false hs
       go_wp2_with fail
       refine end_linE rfl rfl rfl rfl (set3_heap HK5.out.r) ?_;exact .inr (.inl ⟨rfl, hs, rfl, ((HK5.out.bel.setCell (show w.heap.size ≤ w.heap.size + 2 by omega) _).setCell (show w.heap.size ≤ w.heap.size + 2 by omega) _).setCell (show w.heap.size ≤ w.heap.size + 2 by omega) _⟩)
theorem refAddR {U : List (List UInt8)} {d : Nat} {w : World} {s1 s2 : Int} {a1 a2 : Option Addr} {n1 c1 n2 c2 : Nat} {t1 t2 : ByteArray} {c : Rat} {f : List UInt8 → Rat} {B1 B2 : Bool}
    (hv1 : ∀ W, Below w.heap.size w W → Calls Tryz.prog 30 #[.agg #[.int .i64 s1, .slice a1 n1 c1, .string t1]] W fun e w' => e = .returned (.bool B1) ∧ Below W.heap.size W w')
    (hv2 : ∀ W, Below w.heap.size w W → Calls Tryz.prog 30 #[.agg #[.int .i64 s2, .slice a2 n2 c2, .string t2]] W fun e w' => e = .returned (.bool B2) ∧ Below W.heap.size W w')
    (hcb : B1 = true → B2 = true → s1 = s2 → ∀ W, Below w.heap.size w W → Calls Tryz.prog 88 #[.agg #[.int .i64 s1, .slice a1 n1 c1, .string t1], .agg #[.int .i64 s2, .slice a2 n2 c2, .string t2]] W (GetsU U s1 d c f W)) :
    Calls Tryz.prog 36 #[.agg #[.int .i64 s1, .slice a1 n1 c1, .string t1], .agg #[.int .i64 s2, .slice a2 n2 c2, .string t2]] w (AddP U (B1 && B2) s1 s2 d c f w) := by
 obtain ⟨m1, m2, m3, mb⟩ := newL3 w (.cells #[.int .i64 s1, .slice a1 n1 c1, .string t1] 26) (.cells #[.int .i64 s2, .slice a2 n2 c2, .string t2] 26) (.cells #[.int .i64 0, .slice none 0 0, .string ⟨#[]⟩] 26);have HK := hid (⟨m1, m2, m3, mb⟩ : AB w _ s1 s2 a1 n1 c1 t1 a2 n2 c2 t2);have HV1 := hid hv1;have HV2 := hid hv2;have HCB := hid hcb;clear m1 m2 m3 mb hv1 hv2 hcb
 go_enter Tryz.func36, Tryz.ntmps36
 go_wp2_with fail
 generalize ((w.alloc (.cells #[.int .i64 s1, .slice a1 n1 c1, .string t1] 26)).alloc (.cells #[.int .i64 s2, .slice a2 n2 c2, .string t2] 26)).alloc (.cells #[.int .i64 0, .slice none 0 0, .string ⟨#[]⟩] 26) = w3 at *;refine (HV1.out _ HK.out.bel).mono ?_;rintro e w4 ⟨rfl, hb⟩;have HK4 := hid (HK.out.far hb);clear hb HK;have q0 := heap_cell HK4.out.b 0;have q1 := heap_cell HK4.out.b 1;have q2 := heap_cell HK4.out.b 2;have r0 := heap_cell HK4.out.r 0;have r1 := heap_cell HK4.out.r 1;have r2 := heap_cell HK4.out.r 2;have fr := fun i => heap_fz HK4.out.r i
 cases B1 with
 | false =>
   go_wp2_with fail
   refine end_linE rfl rfl rfl rfl (set3_heap HK4.out.r) ?_;exact .inl ⟨rfl, rfl, ((HK4.out.bel.setCell (show w.heap.size ≤ w.heap.size + 2 by omega) _).setCell (show w.heap.size ≤ w.heap.size + 2 by omega) _).setCell (show w.heap.size ≤ w.heap.size + 2 by omega) _⟩
 | true =>
   clear r0 r1 r2 fr
   go_wp2_with fail
   refine (HV2.out _ HK4.out.bel).mono ?_;rintro e w5 ⟨rfl, hb⟩;have HK5 := hid (HK4.out.far hb);clear hb q0 q1 q2 HK4;have r0 := heap_cell HK5.out.r 0;have r1 := heap_cell HK5.out.r 1;have r2 := heap_cell HK5.out.r 2;have fr := fun i => heap_fz HK5.out.r i
   have p0 := heap_cell HK5.out.a 0;have q0 := heap_cell HK5.out.b 0;cases B2 with
   | false =>
     go_wp2_with fail
     refine end_linE rfl rfl rfl rfl (set3_heap HK5.out.r) ?_;exact .inl ⟨rfl, rfl, ((HK5.out.bel.setCell (show w.heap.size ≤ w.heap.size + 2 by omega) _).setCell (show w.heap.size ≤ w.heap.size + 2 by omega) _).setCell (show w.heap.size ≤ w.heap.size + 2 by omega) _⟩
   | true =>
     by_cases hs : s1 = s2
     · have hse : (s1 == s2) = true := by rw [hs]; exact beq_self_eq_true _
       have hsn : (s1 != s2) = false := by rw [bne, hse]; rfl
       have hsd : decide (s1 = s2) = true := decide_eq_true hs;have HCC := hid (HCB.out (by simp) (by simp) hs);have HS := hid hs;clear hs;have p1 := heap_cell HK5.out.a 1;have p2 := heap_cell HK5.out.a 2;have q1 := heap_cell HK5.out.b 1;have q2 := heap_cell HK5.out.b 2
       go_wp2_with fail
       refine (HCC.out _ HK5.out.bel).mono ?_;rintro e w6 ⟨rs, ao, g, cap, rfl, h2, h3, h4, h5, h6, hb⟩;have H2 := hid h2;have H3 := hid h3;have H4 := hid h4;have H5 := hid h5;have H6 := hid h6;have HK6 := hid (HK5.out.far hb);clear hb h2 h3 h4 h5 h6 p0 p1 p2 q0 q1 q2 r0 r1 r2 fr HK5;have r0 := heap_cell HK6.out.r 0;have r1 := heap_cell HK6.out.r 1;have r2 := heap_cell HK6.out.r 2;have fr := fun i => heap_fz HK6.out.r i
       go_wp2_with fail
       refine end_linE rfl rfl rfl rfl (set3_heap HK6.out.r) ?_;have hc := csl_but H2.out H3.out HK6.out.r (by decide) fun g hg => set3_other (.int .i64 s1) (.slice ao rs.length cap) (.string (TX c)) hg
       exact .inr (.inr ⟨rfl, HS.out, rs, ao, g, 0, cap, rfl, hc.1, hc.2, H4.out, H5.out, H6.out, ((HK6.out.bel.setCell (show w.heap.size ≤ w.heap.size + 2 by omega) _).setCell (show w.heap.size ≤ w.heap.size + 2 by omega) _).setCell (show w.heap.size ≤ w.heap.size + 2 by omega) _⟩)
     · have hse : (s1 == s2) = false := beq_eq_false_iff_ne.2 hs;have hsn : (s1 != s2) = true := by rw [bne, hse]; rfl
       have hsd : decide (s1 = s2) = false := decide_eq_false hs
       go_wp2_with fail
       refine end_linE rfl rfl rfl rfl (set3_heap HK5.out.r) ?_;exact .inr (.inl ⟨rfl, hs, rfl, ((HK5.out.bel.setCell (show w.heap.size ≤ w.heap.size + 2 by omega) _).setCell (show w.heap.size ≤ w.heap.size + 2 by omega) _).setCell (show w.heap.size ≤ w.heap.size + 2 by omega) _⟩)
end
end Go.Proofs.YteoklapcifonaaaGreatDoor
/- Scale and Replace with their errors. -/
namespace Go.Proofs.YteoklapcifonaaaGreatDoor
open Go.RowKit Nmx
open Go.Lib (compareBytes)
theorem addP_of {s : Int} {d : Nat} {c : Rat} {f : List UInt8 → Rat} {w : World} {e : Ending} {w' : World} (h : GetsLE s d c f w e w') : AddP nm4 true s s d c f w e w' := by
 obtain ⟨rs, v, rfl, ⟨ao, g, off, cap, rfl, hc, hty, hg, hd⟩, hf, hb⟩ := h;exact .inr (.inr ⟨rfl, rfl, rs, ao, g, off, cap, rfl, hc, hty, hg.u, hd, hf, hb⟩)
section
set_option maxRecDepth 100000
set_option maxHeartbeats 8000000
theorem scaleNo {w : World} {s1 : Int} {a1 : Option Addr} {n1 c1 : Nat} {t1 k : ByteArray} 
    (hv1 : ∀ W, Below w.heap.size w W → Calls Tryz.prog 29 #[.agg #[.int .i64 s1, .slice a1 n1 c1, .string t1]] W fun e w' => e = .returned (.bool true) ∧ Below W.heap.size W w')
    (hv2 : ∀ W, Below w.heap.size w W → Calls Tryz.prog 54 #[.string k] W fun e w' => e = .returned (.bool false) ∧ Below W.heap.size W w') :
    Calls Tryz.prog 18 #[.agg #[.int .i64 s1, .slice a1 n1 c1, .string t1], .string k] w fun e w' => e = .returned (.tuple #[zeroLV, .int .i64 1]) ∧ Below w.heap.size w w' := by
 obtain ⟨m1, m2, mb⟩ := newL2 w (.cells #[.int .i64 s1, .slice a1 n1 c1, .string t1] 26) (.cells #[.int .i64 0, .slice none 0 0, .string ⟨#[]⟩] 26);have HK := hid (⟨m1, m2, mb⟩ : SB w _ s1 a1 n1 c1 t1);have HV1 := hid hv1;have HV2 := hid hv2
 skip
 clear m1 m2 mb hv1 hv2
 go_enter Tryz.func18, Tryz.ntmps18
 go_wp2_with fail
 generalize (w.alloc (.cells #[.int .i64 s1, .slice a1 n1 c1, .string t1] 26)).alloc (.cells #[.int .i64 0, .slice none 0 0, .string ⟨#[]⟩] 26) = w3 at *;refine (HV1.out _ HK.out.bel).mono ?_;rintro e w4 ⟨rfl, hb⟩;replace HK := hid (HK.out.far hb);clear hb
 go_wp2_with fail
 refine (HV2.out _ HK.out.bel).mono ?_;rintro e w5 ⟨rfl, hb⟩;replace HK := hid (HK.out.far hb);clear hb;have r0 := heap_cell HK.out.r 0;have r1 := heap_cell HK.out.r 1;have r2 := heap_cell HK.out.r 2;have fr := fun i => heap_fz HK.out.r i
 go_wp2_with fail
 refine end_linE rfl rfl rfl rfl (set3_heap HK.out.r) ?_;exact ⟨rfl, ((HK.out.bel.setCell (show w.heap.size ≤ w.heap.size + 1 by omega) _).setCell (show w.heap.size ≤ w.heap.size + 1 by omega) _).setCell (show w.heap.size ≤ w.heap.size + 1 by omega) _⟩
theorem refScaleNo {w : World} {s1 : Int} {a1 : Option Addr} {n1 c1 : Nat} {t1 k : ByteArray} 
    (hv1 : ∀ W, Below w.heap.size w W → Calls Tryz.prog 30 #[.agg #[.int .i64 s1, .slice a1 n1 c1, .string t1]] W fun e w' => e = .returned (.bool true) ∧ Below W.heap.size W w')
    (hv2 : ∀ W, Below w.heap.size w W → Calls Tryz.prog 72 #[.string k] W fun e w' => e = .returned (.bool false) ∧ Below W.heap.size W w') :
    Calls Tryz.prog 37 #[.agg #[.int .i64 s1, .slice a1 n1 c1, .string t1], .string k] w fun e w' => e = .returned (.tuple #[zeroLV, .int .i64 1]) ∧ Below w.heap.size w w' := by
 obtain ⟨m1, m2, mb⟩ := newL2 w (.cells #[.int .i64 s1, .slice a1 n1 c1, .string t1] 26) (.cells #[.int .i64 0, .slice none 0 0, .string ⟨#[]⟩] 26);have HK := hid (⟨m1, m2, mb⟩ : SB w _ s1 a1 n1 c1 t1);have HV1 := hid hv1;have HV2 := hid hv2
 skip
 clear m1 m2 mb hv1 hv2
 go_enter Tryz.func37, Tryz.ntmps37
 go_wp2_with fail
 generalize (w.alloc (.cells #[.int .i64 s1, .slice a1 n1 c1, .string t1] 26)).alloc (.cells #[.int .i64 0, .slice none 0 0, .string ⟨#[]⟩] 26) = w3 at *;refine (HV1.out _ HK.out.bel).mono ?_;rintro e w4 ⟨rfl, hb⟩;replace HK := hid (HK.out.far hb);clear hb
 go_wp2_with fail
 refine (HV2.out _ HK.out.bel).mono ?_;rintro e w5 ⟨rfl, hb⟩;replace HK := hid (HK.out.far hb);clear hb;have r0 := heap_cell HK.out.r 0;have r1 := heap_cell HK.out.r 1;have r2 := heap_cell HK.out.r 2;have fr := fun i => heap_fz HK.out.r i
 go_wp2_with fail
 refine end_linE rfl rfl rfl rfl (set3_heap HK.out.r) ?_;exact ⟨rfl, ((HK.out.bel.setCell (show w.heap.size ≤ w.heap.size + 1 by omega) _).setCell (show w.heap.size ≤ w.heap.size + 1 by omega) _).setCell (show w.heap.size ≤ w.heap.size + 1 by omega) _⟩
theorem refScaleYes {w : World} {s1 : Int} {a1 : Option Addr} {n1 c1 : Nat} {t1 k : ByteArray} {d : Nat} {c : Rat} {f : List UInt8 → Rat}
    (hv1 : ∀ W, Below w.heap.size w W → Calls Tryz.prog 30 #[.agg #[.int .i64 s1, .slice a1 n1 c1, .string t1]] W fun e w' => e = .returned (.bool true) ∧ Below W.heap.size W w')
    (hv2 : ∀ W, Below w.heap.size w W → Calls Tryz.prog 72 #[.string k] W fun e w' => e = .returned (.bool true) ∧ Below W.heap.size W w')
    (hcb : ∀ W, Below w.heap.size w W → Calls Tryz.prog 83 #[.agg #[.int .i64 s1, .slice a1 n1 c1, .string t1], .string k] W (GetsL s1 d c f W)) :
    Calls Tryz.prog 37 #[.agg #[.int .i64 s1, .slice a1 n1 c1, .string t1], .string k] w (GetsLE s1 d c f w) := by
 obtain ⟨m1, m2, mb⟩ := newL2 w (.cells #[.int .i64 s1, .slice a1 n1 c1, .string t1] 26) (.cells #[.int .i64 0, .slice none 0 0, .string ⟨#[]⟩] 26);have HK := hid (⟨m1, m2, mb⟩ : SB w _ s1 a1 n1 c1 t1);have HV1 := hid hv1;have HV2 := hid hv2;have HCB := hid hcb;clear m1 m2 mb hv1 hv2 hcb
 go_enter Tryz.func37, Tryz.ntmps37
 go_wp2_with fail
 generalize (w.alloc (.cells #[.int .i64 s1, .slice a1 n1 c1, .string t1] 26)).alloc (.cells #[.int .i64 0, .slice none 0 0, .string ⟨#[]⟩] 26) = w3 at *;refine (HV1.out _ HK.out.bel).mono ?_;rintro e w4 ⟨rfl, hb⟩;replace HK := hid (HK.out.far hb);clear hb
 go_wp2_with fail
 refine (HV2.out _ HK.out.bel).mono ?_;rintro e w5 ⟨rfl, hb⟩;replace HK := hid (HK.out.far hb);clear hb;have q0 := heap_cell HK.out.a 0;have q1 := heap_cell HK.out.a 1;have q2 := heap_cell HK.out.a 2
 go_wp2_with fail
 refine (HCB.out _ HK.out.bel).mono ?_;rintro e w6 ⟨rs, v, rfl, hl, hf, hb⟩;have HL := hid hl;have HF := hid hf;replace HK := hid (HK.out.far hb);obtain ⟨ao, g, off, cap, hx, -⟩ := hl;have HX := hid hx;subst hx;clear hf hb q0 q1 q2;have r0 := heap_cell HK.out.r 0;have r1 := heap_cell HK.out.r 1;have r2 := heap_cell HK.out.r 2;have fr := fun i => heap_fz HK.out.r i
 go_wp2_with fail
 refine end_linE rfl rfl rfl rfl (set3_heap HK.out.r) ?_;exact ⟨rs, _, rfl, HL.out.but HK.out.r (by decide) (fun g hg => set3_other _ _ _ hg), HF.out, ((HK.out.bel.setCell (show w.heap.size ≤ w.heap.size + 1 by omega) _).setCell (show w.heap.size ≤ w.heap.size + 1 by omega) _).setCell (show w.heap.size ≤ w.heap.size + 1 by omega) _⟩
theorem replaceNo {w : World} {s1 s2 : Int} {a1 a2 : Option Addr} {n1 c1 n2 c2 : Nat} {t1 t2 tn : ByteArray} {b : Bool}
    (hv1 : ∀ W, Below w.heap.size w W → Calls Tryz.prog 29 #[.agg #[.int .i64 s1, .slice a1 n1 c1, .string t1]] W fun e w' => e = .returned (.bool true) ∧ Below W.heap.size W w')
    (hv2 : ∀ W, Below w.heap.size w W → Calls Tryz.prog 29 #[.agg #[.int .i64 s2, .slice a2 n2 c2, .string t2]] W fun e w' => e = .returned (.bool true) ∧ Below W.heap.size W w')
    (hnm : ∀ W, Calls Tryz.prog 69 #[.string tn] W fun e w' => e = .returned (.bool b) ∧ Below W.heap.size W w')
    (hne : b = false ∨ s1 ≠ s2) :
    Calls Tryz.prog 38 #[.agg #[.int .i64 s1, .slice a1 n1 c1, .string t1], .string tn, .agg #[.int .i64 s2, .slice a2 n2 c2, .string t2]] w fun e w' => e = .returned (.tuple #[zeroLV, .int .i64 (if b then 3 else 1)]) ∧ Below w.heap.size w w' := by
 obtain ⟨m1, m2, m3, mb⟩ := newL3 w (.cells #[.int .i64 s1, .slice a1 n1 c1, .string t1] 26) (.cells #[.int .i64 s2, .slice a2 n2 c2, .string t2] 26) (.cells #[.int .i64 0, .slice none 0 0, .string ⟨#[]⟩] 26);have HK := hid (⟨m1, m2, m3, mb⟩ : AB w _ s1 s2 a1 n1 c1 t1 a2 n2 c2 t2);have HV1 := hid hv1;have HV2 := hid hv2;have HNM := hid hnm;have HNE := hid hne;clear m1 m2 m3 mb hv1 hv2 hnm hne
 go_enter Tryz.func38, Tryz.ntmps38
 go_wp2_with fail
 generalize ((w.alloc (.cells #[.int .i64 s1, .slice a1 n1 c1, .string t1] 26)).alloc (.cells #[.int .i64 s2, .slice a2 n2 c2, .string t2] 26)).alloc (.cells #[.int .i64 0, .slice none 0 0, .string ⟨#[]⟩] 26) = w3 at *;refine (HV1.out _ HK.out.bel).mono ?_;rintro e w4 ⟨rfl, hb⟩;replace HK := hid (HK.out.far hb);clear hb;have q0 := heap_cell HK.out.b 0;have q1 := heap_cell HK.out.b 1;have q2 := heap_cell HK.out.b 2
 go_wp2_with fail
 refine (HV2.out _ HK.out.bel).mono ?_;rintro e w5 ⟨rfl, hb⟩;replace HK := hid (HK.out.far hb);clear hb;clear q0 q1 q2
 go_wp2_with fail
 refine (HNM.out _).mono ?_;rintro e w6 ⟨rfl, hb⟩;replace HK := hid (HK.out.far hb);clear hb;cases b with
 | false =>
   have r0 := heap_cell HK.out.r 0;have r1 := heap_cell HK.out.r 1;have r2 := heap_cell HK.out.r 2;have fr := fun i => heap_fz HK.out.r i
   go_wp2_with fail
   refine end_linE rfl rfl rfl rfl (set3_heap HK.out.r) ?_;exact ⟨rfl, ((HK.out.bel.setCell (show w.heap.size ≤ w.heap.size + 2 by omega) _).setCell (show w.heap.size ≤ w.heap.size + 2 by omega) _).setCell (show w.heap.size ≤ w.heap.size + 2 by omega) _⟩
 | true =>
   have e0 := heap_cell HK.out.a 0;have e1 := heap_cell HK.out.b 0;have r0 := heap_cell HK.out.r 0;have r1 := heap_cell HK.out.r 1;have r2 := heap_cell HK.out.r 2;have fr := fun i => heap_fz HK.out.r i
   by_cases hs : s1 = s2
   · exact absurd (HNE.out.resolve_left (by simp)) (fun h => h hs)
   · have hse : (s1 == s2) = false := beq_eq_false_iff_ne.2 hs;have hsn : (s1 != s2) = true := by rw [bne, hse]; rfl
     have hsd : decide (s1 = s2) = false := decide_eq_false hs
     go_wp2_with fail
     refine end_linE rfl rfl rfl rfl (set3_heap HK.out.r) ?_;exact ⟨rfl, ((HK.out.bel.setCell (show w.heap.size ≤ w.heap.size + 2 by omega) _).setCell (show w.heap.size ≤ w.heap.size + 2 by omega) _).setCell (show w.heap.size ≤ w.heap.size + 2 by omega) _⟩
theorem refReplaceNo {w : World} {s1 s2 : Int} {a1 a2 : Option Addr} {n1 c1 n2 c2 : Nat} {t1 t2 tn : ByteArray} {b : Bool}
    (hv1 : ∀ W, Below w.heap.size w W → Calls Tryz.prog 30 #[.agg #[.int .i64 s1, .slice a1 n1 c1, .string t1]] W fun e w' => e = .returned (.bool true) ∧ Below W.heap.size W w')
    (hv2 : ∀ W, Below w.heap.size w W → Calls Tryz.prog 30 #[.agg #[.int .i64 s2, .slice a2 n2 c2, .string t2]] W fun e w' => e = .returned (.bool true) ∧ Below W.heap.size W w')
    (hnm : ∀ W, Calls Tryz.prog 73 #[.string tn] W fun e w' => e = .returned (.bool b) ∧ Below W.heap.size W w')
    (hne : b = false ∨ s1 ≠ s2) :
    Calls Tryz.prog 39 #[.agg #[.int .i64 s1, .slice a1 n1 c1, .string t1], .string tn, .agg #[.int .i64 s2, .slice a2 n2 c2, .string t2]] w fun e w' => e = .returned (.tuple #[zeroLV, .int .i64 (if b then 3 else 1)]) ∧ Below w.heap.size w w' := by
 obtain ⟨m1, m2, m3, mb⟩ := newL3 w (.cells #[.int .i64 s1, .slice a1 n1 c1, .string t1] 26) (.cells #[.int .i64 s2, .slice a2 n2 c2, .string t2] 26) (.cells #[.int .i64 0, .slice none 0 0, .string ⟨#[]⟩] 26);have HK := hid (⟨m1, m2, m3, mb⟩ : AB w _ s1 s2 a1 n1 c1 t1 a2 n2 c2 t2);have HV1 := hid hv1;have HV2 := hid hv2;have HNM := hid hnm;have HNE := hid hne;clear m1 m2 m3 mb hv1 hv2 hnm hne
 go_enter Tryz.func39, Tryz.ntmps39
 go_wp2_with fail
 generalize ((w.alloc (.cells #[.int .i64 s1, .slice a1 n1 c1, .string t1] 26)).alloc (.cells #[.int .i64 s2, .slice a2 n2 c2, .string t2] 26)).alloc (.cells #[.int .i64 0, .slice none 0 0, .string ⟨#[]⟩] 26) = w3 at *;refine (HV1.out _ HK.out.bel).mono ?_;rintro e w4 ⟨rfl, hb⟩;replace HK := hid (HK.out.far hb);clear hb
 go_wp2_with fail
 refine (HNM.out _).mono ?_;rintro e w5 ⟨rfl, hb⟩;replace HK := hid (HK.out.far hb);clear hb;cases b with
 | false =>
   have r0 := heap_cell HK.out.r 0;have r1 := heap_cell HK.out.r 1;have r2 := heap_cell HK.out.r 2;have fr := fun i => heap_fz HK.out.r i
   go_wp2_with fail
   refine end_linE rfl rfl rfl rfl (set3_heap HK.out.r) ?_;exact ⟨rfl, ((HK.out.bel.setCell (show w.heap.size ≤ w.heap.size + 2 by omega) _).setCell (show w.heap.size ≤ w.heap.size + 2 by omega) _).setCell (show w.heap.size ≤ w.heap.size + 2 by omega) _⟩
 | true =>
   have q0 := heap_cell HK.out.b 0;have q1 := heap_cell HK.out.b 1;have q2 := heap_cell HK.out.b 2
   go_wp2_with fail
   refine (HV2.out _ HK.out.bel).mono ?_;rintro e w6 ⟨rfl, hb⟩;replace HK := hid (HK.out.far hb);clear hb q0 q1 q2;have e0 := heap_cell HK.out.a 0;have e1 := heap_cell HK.out.b 0;have r0 := heap_cell HK.out.r 0;have r1 := heap_cell HK.out.r 1;have r2 := heap_cell HK.out.r 2;have fr := fun i => heap_fz HK.out.r i
   by_cases hs : s1 = s2
   · exact absurd (HNE.out.resolve_left (by simp)) (fun h => h hs)
   · have hse : (s1 == s2) = false := beq_eq_false_iff_ne.2 hs;have hsn : (s1 != s2) = true := by rw [bne, hse]; rfl
     have hsd : decide (s1 = s2) = false := decide_eq_false hs
     go_wp2_with fail
     refine end_linE rfl rfl rfl rfl (set3_heap HK.out.r) ?_;exact ⟨rfl, ((HK.out.bel.setCell (show w.heap.size ≤ w.heap.size + 2 by omega) _).setCell (show w.heap.size ≤ w.heap.size + 2 by omega) _).setCell (show w.heap.size ≤ w.heap.size + 2 by omega) _⟩
theorem refReplaceYes {w : World} {s : Int} {a1 a2 : Option Addr} {n1 c1 n2 c2 d dk D : Nat} {t1 t2 tn tk : ByteArray} {p q c : Rat} {h k f : List UInt8 → Rat}
    (hv1 : ∀ W, Below w.heap.size w W → Calls Tryz.prog 30 #[.agg #[.int .i64 s, .slice a1 n1 c1, .string t1]] W fun e w' => e = .returned (.bool true) ∧ Below W.heap.size W w')
    (hv2 : ∀ W, Below w.heap.size w W → Calls Tryz.prog 30 #[.agg #[.int .i64 s, .slice a2 n2 c2, .string t2]] W fun e w' => e = .returned (.bool true) ∧ Below W.heap.size W w')
    (hnm : ∀ W, Calls Tryz.prog 73 #[.string tn] W fun e w' => e = .returned (.bool true) ∧ Below W.heap.size W w')
    (hco : ∀ W, Below w.heap.size w W → Calls Tryz.prog 90 #[.agg #[.int .i64 s, .slice a1 n1 c1, .string t1], .string tn] W fun e w' => e = .returned (.string tk) ∧ Below W.heap.size W w')
    (hwo : ∀ W, Below w.heap.size w W → Calls Tryz.prog 91 #[.agg #[.int .i64 s, .slice a1 n1 c1, .string t1], .string tn] W (GetsL s d p h W))
    (hti : ∀ W, Below w.heap.size w W → Calls Tryz.prog 83 #[.agg #[.int .i64 s, .slice a2 n2 c2, .string t2], .string tk] W (GetsL s dk q k W))
    (hpl : ∀ W u v rs1 rs2, LV W u s d p rs1 → (∀ n, cof rs1 n = h n) → LV W v s dk q rs2 → (∀ n, cof rs2 n = k n) → Calls Tryz.prog 88 #[u, v] W (GetsU nm4 s D c f W)) :
    Calls Tryz.prog 39 #[.agg #[.int .i64 s, .slice a1 n1 c1, .string t1], .string tn, .agg #[.int .i64 s, .slice a2 n2 c2, .string t2]] w (AddP nm4 true s s D c f w) := by
 obtain ⟨m1, m2, m3, mb⟩ := newL3 w (.cells #[.int .i64 s, .slice a1 n1 c1, .string t1] 26) (.cells #[.int .i64 s, .slice a2 n2 c2, .string t2] 26) (.cells #[.int .i64 0, .slice none 0 0, .string ⟨#[]⟩] 26);have HK := hid (⟨m1, m2, m3, mb⟩ : AB w _ s s a1 n1 c1 t1 a2 n2 c2 t2);have HV1 := hid hv1;have HV2 := hid hv2;have HNM := hid hnm;have HCO := hid hco;have HWO := hid hwo;have HTI := hid hti;have HPL := hid hpl;clear m1 m2 m3 mb hv1 hv2 hnm hco hwo hti hpl
 go_enter Tryz.func39, Tryz.ntmps39
 go_wp2_with fail
 generalize ((w.alloc (.cells #[.int .i64 s, .slice a1 n1 c1, .string t1] 26)).alloc (.cells #[.int .i64 s, .slice a2 n2 c2, .string t2] 26)).alloc (.cells #[.int .i64 0, .slice none 0 0, .string ⟨#[]⟩] 26) = w3 at *;refine (HV1.out _ HK.out.bel).mono ?_;rintro e w4 ⟨rfl, hb⟩;replace HK := hid (HK.out.far hb);clear hb
 go_wp2_with fail
 refine (HNM.out _).mono ?_;rintro e w5 ⟨rfl, hb⟩;replace HK := hid (HK.out.far hb);clear hb;have q0 := heap_cell HK.out.b 0;have q1 := heap_cell HK.out.b 1;have q2 := heap_cell HK.out.b 2
 go_wp2_with fail
 refine (HV2.out _ HK.out.bel).mono ?_;rintro e w6 ⟨rfl, hb⟩;replace HK := hid (HK.out.far hb);clear hb;clear q0 q1 q2;have e0 := heap_cell HK.out.a 0;have e1 := heap_cell HK.out.a 1;have e2 := heap_cell HK.out.a 2;have g0 := heap_cell HK.out.b 0
 go_wp2_with fail
 refine (HCO.out _ HK.out.bel).mono ?_;rintro e w7 ⟨rfl, hb⟩;replace HK := hid (HK.out.far hb);clear hb e0 e1 e2 g0
 go_wp2_with fail
 refine add_region [[], [], [0, 1], [], [], [0, 1, 2, 3, 4], [0, 1, 2, 3, 4, 5], [0, 1, 2, 3, 4, 5, 6], [0, 1, 2, 3, 4, 5, 6, 7]] (fun W => AB w W s s a1 n1 c1 t1 a2 n2 c2 t2) (fun _ => True) ?_
 iterate 2
  apply a_con
  · intro x; go_simp; done
  · intro x W R hW hF hR;have e0' := heap_cell hW.a 0;have e1' := heap_cell hW.a 1;have e2' := heap_cell hW.a 2;have g0' := heap_cell hW.b 0;have g1' := heap_cell hW.b 1;have g2' := heap_cell hW.b 2;clear hF;unfold addAt
    go_simp
    simp only [addUpon];exact hR _ (Below.refl _ _)
  simp only [Act.put, List.setIfInBounds_toArray, List.set_cons_zero, List.set_cons_succ]
 refine a_opq (fun v W => ∃ rs, LV W v s d p rs ∧ ∀ n, cof rs n = h n) (fun _ _ _ h hb => let ⟨rs, h1, h2⟩ := h; ⟨rs, h1.far hb, h2⟩) ?_ ?_ ?_
 · intro x; go_simp; done
 · intro x W R hW hF hR;clear hF;unfold addAt
   go_simp
   simp only [addUpon];refine (HWO.out W hW.bel).mono ?_;rintro e w' ⟨rs, v, rfl, hl, hf, hb⟩;exact ⟨v, rfl, hR _ _ ⟨rs, hl, hf⟩ hb⟩
 simp only [Act.put, List.setIfInBounds_toArray, List.set_cons_zero, List.set_cons_succ, List.length_cons, List.length_nil, Nat.zero_add, Nat.reduceAdd]
 iterate 2
  apply a_con
  · intro x; go_simp; done
  · intro x W R hW hF hR;have e0' := heap_cell hW.a 0;have e1' := heap_cell hW.a 1;have e2' := heap_cell hW.a 2;have g0' := heap_cell hW.b 0;have g1' := heap_cell hW.b 1;have g2' := heap_cell hW.b 2;clear hF;unfold addAt
    go_simp
    simp only [addUpon];exact hR _ (Below.refl _ _)
  simp only [Act.put, List.setIfInBounds_toArray, List.set_cons_zero, List.set_cons_succ]
 refine a_opq (fun v W => ∃ rs, LV W v s dk q rs ∧ ∀ n, cof rs n = k n) (fun _ _ _ h hb => let ⟨rs, h1, h2⟩ := h; ⟨rs, h1.far hb, h2⟩) ?_ ?_ ?_
 · intro x; go_simp; done
 · intro x W R hW hF hR;clear hF;unfold addAt
   go_simp
   simp only [addUpon];refine (HTI.out W hW.bel).mono ?_;rintro e w' ⟨rs, v, rfl, hl, hf, hb⟩;exact ⟨v, rfl, hR _ _ ⟨rs, hl, hf⟩ hb⟩
 simp only [Act.put, List.setIfInBounds_toArray, List.set_cons_zero, List.set_cons_succ, List.length_cons, List.length_nil, Nat.zero_add, Nat.reduceAdd];refine a_opq (fun v W => ∃ (rs : List (List UInt8 × Rat)) (ao : Option Addr) (g cap : Nat), v = .agg #[.int .i64 s, .slice ao rs.length cap, .string (TX c)] ∧ CSl W ao g 0 cap rs ∧ (rs = [] ∨ ∃ cur fr, W.heap[g]? = some (.cells cur 79 fr)) ∧ GoodU nm4 D rs ∧ DS D c ∧ (∀ n, cof rs n = f n)) (fun _ _ _ h hb => let ⟨_, _, _, _, h1, h2, h3, h4, h5, h6⟩ := h; ⟨_, _, _, _, h1, h2.far hb, h3.imp id fun ⟨_, _, h⟩ => ⟨_, _, (hb.block _ (lt_of_heap h)).trans h⟩, h4, h5, h6⟩) ?_ ?_ ?_
 · intro x; go_simp; done
 · intro x W R hW hF hR;have hu := hF.2.2.2.1.2 rfl rfl rfl;have hv := hF.1.2 rfl rfl rfl;simp only [AK.fact] at hu hv;obtain ⟨rs1, hl1, hf1⟩ := hu;obtain ⟨rs2, hl2, hf2⟩ := hv;clear hF;unfold addAt
   go_simp
   simp only [addUpon];refine (HPL.out W _ _ rs1 rs2 hl1 hf1 hl2 hf2).mono ?_;rintro e w' ⟨rs, ao, g, cap, rfl, h2, h3, h4, h5, h6, hb⟩;exact ⟨_, rfl, hR _ _ ⟨rs, ao, g, cap, rfl, h2, h3, h4, h5, h6⟩ hb⟩
 simp only [Act.put, List.setIfInBounds_toArray, List.set_cons_zero, List.set_cons_succ, List.length_cons, List.length_nil, Nat.zero_add, Nat.reduceAdd];refine a_wrt (fun _ W => ∃ (rs : List (List UInt8 × Rat)) (ao : Option Addr) (g cap : Nat), W.heap[w.heap.size + 2]? = some (.cells #[.int .i64 s, .slice ao rs.length cap, .string (TX c)] 26 (0, 0)) ∧ CSl W ao g 0 cap rs ∧ (rs = [] ∨ ∃ cur fr, W.heap[g]? = some (.cells cur 79 fr)) ∧ GoodU nm4 D rs ∧ DS D c ∧ (∀ n, cof rs n = f n) ∧ Below w.heap.size w W) (fun _ _ _ h hb => by obtain ⟨rs, ao, g, cap, h1, h2, h3, h4, h5, h6, h7⟩ := h; exact ⟨rs, ao, g, cap, (hb.block _ (lt_of_heap h1)).trans h1, h2.far hb, h3.imp id fun ⟨_, _, h⟩ => ⟨_, _, (hb.block _ (lt_of_heap h)).trans h⟩, h4, h5, h6, h7.trans (hb.mono h7.size)⟩) (fun _ _ _ _ h => h) ?_ ?_ ?_
 · intro x; go_simp; done
 · intro x W R hW hF hD hR;have hL := hF.1.2 rfl rfl rfl;simp only [AK.fact] at hL;obtain ⟨rs, ao, g, cap, hx, h2, h3, h4, h5, h6⟩ := hL;have H2 := hid h2;have H3 := hid h3;have H4 := hid h4;have H5 := hid h5;have H6 := hid h6;simp only [hx];clear hF h2 h3 h4 h5 h6 hx;have z0 := heap_cell hW.r 0;have z1 := heap_cell hW.r 1;have z2 := heap_cell hW.r 2;have fr := fun i => heap_fz hW.r i
   unfold addAt
   go_simp
   simp only [addUpon];have hc := csl_but H2.out H3.out hW.r (by decide) fun g hg => set3_other (.int .i64 s) (.slice ao rs.length cap) (.string (TX c)) hg
   refine hR _ _ ⟨rs, ao, g, cap, set3_heap hW.r, hc.1, hc.2, H4.out, H5.out, H6.out, ?_⟩ trivial (by simp [World.setCell]);exact ((hW.bel.setCell (show w.heap.size ≤ w.heap.size + 2 by omega) _).setCell (show w.heap.size ≤ w.heap.size + 2 by omega) _).setCell (show w.heap.size ≤ w.heap.size + 2 by omega) _
 simp only [Act.put];apply a_late
 · intro x; go_simp; done
 · intro x W R hW hF hR;clear hF hW;unfold addAt
   go_simp
   simp only [addUpon];exact hR _ (Below.refl _ _)
 simp only [Act.put, List.setIfInBounds_toArray, List.set_cons_zero, List.set_cons_succ];refine a_nil (by kernel_rfl) (by kernel_rfl) (by kernel_rfl) (fun _ _ h hb => h.far hb) (fun _ _ _ _ => trivial) (fun _ _ => trivial) (HK.out.far (Below.refl _ _).drew) ?_;intro x W hE hW hF hD;clear hD;obtain ⟨rs, ao, g, cap, h1, h2, h3, h4, h5, h6, h7⟩ := hF.2.1.2 rfl;have H1 := hid h1;have H2 := hid h2;have H3 := hid h3;have H4 := hid h4;have H5 := hid h5;have H6 := hid h6;have H7 := hid h7;clear hF hW h1 h2 h3 h4 h5 h6 h7
 go_wp2_with fail
 refine end_linE rfl rfl rfl rfl H1.out ?_;exact .inr (.inr ⟨rfl, rfl, rs, ao, g, 0, cap, rfl, H2.out, H3.out, H4.out, H5.out, H6.out, H7.out⟩)
end
end Go.Proofs.YteoklapcifonaaaGreatDoor
/- The sums, multiples and replacements of drawn and of raw expressions: what both sides hand back, and that it is the same. -/
namespace Go.Proofs.YteoklapcifonaaaGreatDoor
open Go.RowKit Nmx
open Go.Lib (compareBytes)
def rawU (rs : List (ByteArray × ByteArray)) : List (List UInt8) := (rs.map fun x => x.1.data.toList) ++ nm4
def rawC (t : ByteArray) : Rat := (ratF t.data.toList).getD 0
theorem raw_const {s : Int} {rs : List (ByteArray × ByteArray)} {t : ByteArray} (hv : validR s rs t = true) (hS : Shrt rs t) : t = TX (rawC t) ∧ DS 40 (rawC t) := by
 unfold validR at hv;simp only [Bool.and_eq_true] at hv;have h2 := getD_of hv.1.2;exact ⟨tx_of h2, (ds_of h2).mono (by rw [size_data]; exact hS.2.1)⟩
theorem rawU_len {rs : List (ByteArray × ByteArray)} {t : ByteArray} (hS : Shrt rs t) : (rawU rs).length ≤ 16 := by
 have := hS.1;unfold rawU nm4;simp only [List.length_append, List.length_map, List.length_cons, List.length_nil]
 omega
theorem comb1 {U : List (List UInt8)} {d : Nat} {w : World} {u : Value} {s1 s2 : Int} {cs1 cs2 : List (List UInt8 × Rat)} {p1 p2 : Rat} {a1 a2 : Option Addr} {g1 o1 c1 g2 o2 c2 : Nat} (h1 : CSl w a1 g1 o1 c1 cs1) (h2 : CSl w a2 g2 o2 c2 cs2) (hk : RV w u 1) (d1 : DS d p1) (d2 : DS d p2) (k1 : GoodU U d cs1) (k2 : GoodU U d cs2) (hU : U.length ≤ 16) (h0 : 0 < d) (hd : d ≤ 700) (hE : Env w) :
    Calls Tryz.prog 52 #[.agg #[.int .i64 s1, .slice a1 cs1.length c1, .string (TX p1)], .agg #[.int .i64 s2, .slice a2 cs2.length c2, .string (TX p2)], u] w (GetsU U s1 (3 * d + 1) (p1 + p2) (fun n => cof cs1 n + cof cs2 n) w) := by
 obtain ⟨_, _, _, _, _, _, _, _, _, _, rfl, -, -⟩ := rv_form hk;have h := combine_okU w s1 s2 cs1 cs2 p1 p2 1 a1 g1 o1 c1 a2 g2 o2 c2 _ _ _ _ _ _ h1 h2 hk (DS.one h0) d1 d2 k1 k2 hU hd hE;rw [Rat.one_mul] at h;refine h.mono ?_;rintro e w' ⟨rs, ao, g, cap, rfl, hcs, hty, hg, hf, hb⟩;exact ⟨rs, ao, g, cap, rfl, hcs, hty, hg, (d1.add d2).mono (by omega), fun n => by rw [hf n, Rat.one_mul], hb⟩
section
variable {w : World} {v1 v2 : Value} {s1 s2 : Int} {p1 p2 : Rat} {cs1 cs2 : List (List UInt8 × Rat)} {a0 : Option Addr} {s0 : Int} {g0 o0 c0 : Nat} {t0 : ByteArray} {rs0 : List (ByteArray × ByteArray)}
theorem addDrawn (h1 : LV w v1 s1 26 p1 cs1) (h2 : LV w v2 s2 26 p2 cs2) (hs1 : s1 = 2 ∨ s1 = 3) (hs2 : s2 = 2 ∨ s2 = 3) (hE : Env w) :
    Calls Tryz.prog 17 #[v1, v2] w (AddP nm4 true s1 s2 79 (p1 + p2) (fun n => cof cs1 n + cof cs2 n) w) := by
 have q1 := h1;have q2 := h2;obtain ⟨a1, g1, o1, c1, rfl, hc1, -, hg1, d1⟩ := h1;obtain ⟨a2, g2, o2, c2, rfl, hc2, -, hg2, d2⟩ := h2;exact addR (B1 := true) (B2 := true) (fun W hW => validL (q1.far hW) hs1 (by decide) (hE.far hW)) (fun W hW => validL (q2.far hW) hs2 (by decide) (hE.far hW)) (fun _ _ _ W u hW hu => comb1 (hc1.far hW) (hc2.far hW) hu d1 d2 hg1.u hg2.u (by decide) (by decide) (by decide) (hE.far hW))
theorem refAddDrawn (h1 : LV w v1 s1 26 p1 cs1) (h2 : LV w v2 s2 26 p2 cs2) (hs1 : s1 = 2 ∨ s1 = 3) (hs2 : s2 = 2 ∨ s2 = 3) :
    Calls Tryz.prog 36 #[v1, v2] w (AddP nm4 true s1 s2 53 (p1 + p2) (fun n => cof cs1 n + cof cs2 n) w) := by
 have q1 := h1;have q2 := h2;obtain ⟨a1, g1, o1, c1, rfl, hc1, -, hg1, d1⟩ := h1;obtain ⟨a2, g2, o2, c2, rfl, hc2, -, hg2, d2⟩ := h2;exact refAddR (B1 := true) (B2 := true) (fun W hW => refValidL (q1.far hW) hs1 (by decide)) (fun W hW => refValidL (q2.far hW) hs2 (by decide)) (fun _ _ _ W hW => plusR (hc1.far hW) hg1.u d1 (hc2.far hW) hg2.u d2 rfl rfl (by decide) (by decide) (by decide))
theorem addRaw (hC : RSl w a0 g0 o0 c0 rs0) (hS : Shrt rs0 t0) (h : LV w v1 s1 26 p1 cs1) (hs : s1 = 2 ∨ s1 = 3) (hE : Env w) :
    Calls Tryz.prog 17 #[.agg #[.int .i64 s0, .slice a0 rs0.length c0, .string t0], v1] w (AddP (rawU rs0) (validR s0 rs0 t0) s0 s1 121 (rawC t0 + p1) (fun n => cof (rcs rs0) n + cof cs1 n) w) := by
 have q1 := h;obtain ⟨a1, g1, o1, c1, rfl, hc1, -, hg1, d1⟩ := h
 have := addR (U := rawU rs0) (d := 121) (c := rawC t0 + p1) (f := fun n => cof (rcs rs0) n + cof cs1 n) (B1 := validR s0 rs0 t0) (B2 := true) (fun W hW => linValidR (s := s0) (hC.far hW) hS (hE.far hW)) (fun W hW => validL (q1.far hW) hs (by decide) (hE.far hW)) (fun hv _ _ W u hW hu => by
  obtain ⟨-, -, hg, -⟩ := raw_good hv hS;obtain ⟨ht, hd⟩ := raw_const hv hS;have := comb1 (s1 := s0) (s2 := s1) (U := rawU rs0) (d := 40) (raw_csl (hC.far hW) hv hS) (hc1.far hW) hu hd (d1.mono (by decide)) (hg.more (fun x hx => List.mem_append_left _ hx) (Nat.le_refl _)) (hg1.u.more (fun x hx => List.mem_append_right _ hx) (by decide)) (rawU_len hS) (by decide) (by decide) (hE.far hW);rw [← ht, rcs_len] at this
  exact this)
 rwa [Bool.and_true] at this
theorem refAddRaw (hC : RSl w a0 g0 o0 c0 rs0) (hS : Shrt rs0 t0) (h : LV w v1 s1 26 p1 cs1) (hs : s1 = 2 ∨ s1 = 3) :
    Calls Tryz.prog 36 #[.agg #[.int .i64 s0, .slice a0 rs0.length c0, .string t0], v1] w (AddP (rawU rs0) (validR s0 rs0 t0) s0 s1 67 (rawC t0 + p1) (fun n => cof (rcs rs0) n + cof cs1 n) w) := by
 have q1 := h;obtain ⟨a1, g1, o1, c1, rfl, hc1, -, hg1, d1⟩ := h
 have := refAddR (U := rawU rs0) (d := 67) (c := rawC t0 + p1) (f := fun n => cof (rcs rs0) n + cof cs1 n) (B1 := validR s0 rs0 t0) (B2 := true) (fun W hW => refValidR (s := s0) (hC.far hW) hS) (fun W hW => refValidL (q1.far hW) hs (by decide)) (fun hv _ _ W hW => by
  obtain ⟨-, -, hg, -⟩ := raw_good hv hS;obtain ⟨ht, hd⟩ := raw_const hv hS;have := plusR (s1 := s0) (s2 := s1) (U := rawU rs0) (d := 40) (e := 26) (raw_csl (hC.far hW) hv hS) (hg.more (fun x hx => List.mem_append_left _ hx) (Nat.le_refl _)) hd (hc1.far hW) (hg1.u.more (fun x hx => List.mem_append_right _ hx) (Nat.le_refl _)) d1 (rcs_len rs0) rfl (rawU_len hS) (by decide) (by decide);rw [← ht] at this
  exact this)
 rwa [Bool.and_true] at this
theorem scaleP (h : LV w v1 s1 26 p1 cs1) (hs : s1 = 2 ∨ s1 = 3) (k : ByteArray) (hk : k.size ≤ 40) (hE : Env w) :
    Calls Tryz.prog 18 #[v1, .string k] w (AddP nm4 (ratF k.data.toList).isSome s1 s1 121 (rawC k * p1) (fun n => rawC k * cof cs1 n) w) := by
 cases hq : ratF k.data.toList with
 | none =>
   have q1 := h;obtain ⟨a1, g1, o1, c1, rfl, -⟩ := h;refine (scaleNo (fun W hW => validL (q1.far hW) hs (by decide) (hE.far hW)) (fun W hW => ?_)).mono fun e w' ⟨h1, h2⟩ => .inl ⟨rfl, h1, h2⟩
   have := numValidS k W (by omega) (hE.far hW);rwa [hq] at this
 | some q =>
   have := scaleTL (h.mono (show 26 ≤ 40 by decide)) hs ((ds_of hq).mono (by rw [size_data]; exact hk)) (by decide) hE;rw [← tx_of hq] at this;have hr : rawC k = q := by unfold rawC; rw [hq]; rfl
   rw [hr];exact this.mono fun _ _ h => addP_of h
theorem refScaleP (h : LV w v1 s1 26 p1 cs1) (hs : s1 = 2 ∨ s1 = 3) (k : ByteArray) (hk : k.size ≤ 40) :
    Calls Tryz.prog 37 #[v1, .string k] w (AddP nm4 (ratF k.data.toList).isSome s1 s1 66 (rawC k * p1) (fun n => rawC k * cof cs1 n) w) := by
 have q1 := h;obtain ⟨a1, g1, o1, c1, rfl, -⟩ := h;have hv := fun W => refValid_any k W (by omega)
 cases hq : ratF k.data.toList with
 | none =>
   rw [hq] at hv;exact (refScaleNo (fun W hW => refValidL (q1.far hW) hs (by decide)) (fun W _ => hv W)).mono fun e w' ⟨h1, h2⟩ => .inl ⟨rfl, h1, h2⟩
 | some q =>
   rw [hq] at hv;have hr : rawC k = q := by unfold rawC; rw [hq]; rfl
   rw [hr];refine (refScaleYes (d := 66) (c := q * p1) (f := fun n => q * cof cs1 n) (fun W hW => refValidL (q1.far hW) hs (by decide)) (fun W _ => hv W) (fun W hW => ?_)).mono fun _ _ h => addP_of h
   have := timesR (q1.far hW) ((ds_of hq).mono (show k.data.toList.length ≤ 40 by rw [size_data]; exact hk)) (by decide) (by decide);rw [← tx_of hq] at this;exact this
theorem replaceP (nm : List UInt8) (h1 : LV w v1 s1 26 p1 cs1) (h2 : LV w v2 s2 26 p2 cs2) (hs1 : s1 = 2 ∨ s1 = 3) (hs2 : s2 = 2 ∨ s2 = 3) (hE : Env w) :
    Calls Tryz.prog 38 #[v1, .string ⟨nm.toArray⟩, v2] w (AddP nm4 (nameF nm) s1 s2 79 (p1 + cof cs1 nm * p2) (fun n => (if n = nm then 0 else cof cs1 n) + cof cs1 nm * cof cs2 n) w) := by
 by_cases hy : nameF nm = true ∧ s1 = s2
 · obtain ⟨hn, rfl⟩ := hy;rw [hn];exact (replace_any nm h1 h2 hn hs1 (by decide) hE).mono fun _ _ h => addP_of h
 · have q1 := h1;have q2 := h2;obtain ⟨a1, g1, o1, c1, rfl, -⟩ := h1;obtain ⟨a2, g2, o2, c2, rfl, -⟩ := h2
   have hnm : ∀ W, Calls Tryz.prog 69 #[.string ⟨nm.toArray⟩] W fun e w' => e = .returned (.bool (nameF nm)) ∧ Below W.heap.size W w' := fun W => by
    have := isName_any ⟨nm.toArray⟩ W;rw [toList_mk] at this;exact this.mono fun e w' ⟨h1, h2⟩ => ⟨h1, by rw [h2]; exact Below.refl _ _⟩
   have hne : nameF nm = false ∨ s1 ≠ s2 := by
    cases hb : nameF nm with
    | false => exact .inl rfl
    | true => exact .inr fun e => hy ⟨hb, e⟩
   refine (replaceNo (fun W hW => validL (q1.far hW) hs1 (by decide) (hE.far hW)) (fun W hW => validL (q2.far hW) hs2 (by decide) (hE.far hW)) hnm hne).mono fun e w' ⟨h1, h2⟩ => ?_
   cases hb : nameF nm with
   | false => rw [hb] at h1; exact .inl ⟨rfl, h1, h2⟩
   | true => rw [hb] at h1 hne; exact .inr (.inl ⟨rfl, hne.resolve_left (by simp), h1, h2⟩)
theorem refReplaceP (nm : List UInt8) (h1 : LV w v1 s1 26 p1 cs1) (h2 : LV w v2 s2 26 p2 cs2) (hs1 : s1 = 2 ∨ s1 = 3) (hs2 : s2 = 2 ∨ s2 = 3) :
    Calls Tryz.prog 39 #[v1, .string ⟨nm.toArray⟩, v2] w (AddP nm4 (nameF nm) s1 s2 79 (p1 + cof cs1 nm * p2) (fun n => (if n = nm then 0 else cof cs1 n) + cof cs1 nm * cof cs2 n) w) := by
 have q1 := h1;have q2 := h2;obtain ⟨a1, g1, o1, c1, rfl, -⟩ := h1;obtain ⟨a2, g2, o2, c2, rfl, -⟩ := h2
 have hnm : ∀ W, Calls Tryz.prog 73 #[.string ⟨nm.toArray⟩] W fun e w' => e = .returned (.bool (nameF nm)) ∧ Below W.heap.size W w' := fun W => by
  have := refName_any ⟨nm.toArray⟩ W;rwa [toList_mk] at this
 by_cases hy : nameF nm = true ∧ s1 = s2
 · obtain ⟨hn, rfl⟩ := hy;rw [hn] at hnm ⊢;refine refReplaceYes (d := 26) (dk := 52) (tk := TX (cof cs1 nm)) (p := p1) (q := cof cs1 nm * p2) (h := fun n => if n = nm then 0 else cof cs1 n) (k := fun n => cof cs1 nm * cof cs2 n) (fun W hW => refValidL (q1.far hW) hs1 (by decide)) (fun W hW => refValidL (q2.far hW) hs2 (by decide)) hnm (fun W hW => refCoefOf_any nm (q1.far hW)) (fun W hW => refWithout_any nm (q1.far hW)) (fun W hW => timesR (q2.far hW) (cof_ds q1.good.1 nm) (by decide) (by decide)) ?_;intro W u v rs1 rs2 l1 e1 l2 e2;obtain ⟨b1, f1, x1, y1, rfl, hc1, -, hg1, d1⟩ := l1;obtain ⟨b2, f2, x2, y2, rfl, hc2, -, hg2, d2⟩ := l2;refine (plusR hc1 hg1.u d1 hc2 hg2.u d2 rfl rfl (by decide) (by decide) (by decide)).mono ?_;rintro e w' ⟨rs, ao, g, cap, k1, k2, k3, k4, k5, k6, k7⟩;exact ⟨rs, ao, g, cap, k1, k2, k3, k4, k5, fun n => (k6 n).trans (by dsimp only; rw [e1 n, e2 n]), k7⟩
 · have hne : nameF nm = false ∨ s1 ≠ s2 := by
     cases hb : nameF nm with
     | false => exact .inl rfl
     | true => exact .inr fun e => hy ⟨hb, e⟩
   refine (refReplaceNo (fun W hW => refValidL (q1.far hW) hs1 (by decide)) (fun W hW => refValidL (q2.far hW) hs2 (by decide)) hnm hne).mono fun e w' ⟨h1, h2⟩ => ?_
   cases hb : nameF nm with
   | false => rw [hb] at h1; exact .inl ⟨rfl, h1, h2⟩
   | true => rw [hb] at h1 hne; exact .inr (.inl ⟨rfl, hne.resolve_left (by simp), h1, h2⟩)
end
/-- what is handed back, in one form -/
def Res (V : Bool) (s1 s2 : Int) (c : Rat) (f : List UInt8 → Rat) (s : Int) (tc : ByteArray) (rs : List (List UInt8 × Rat)) (er : Int) : Prop :=
 (V = false ∧ s = 0 ∧ tc = ⟨#[]⟩ ∧ rs = [] ∧ er = 1) ∨ (V = true ∧ s1 ≠ s2 ∧ s = 0 ∧ tc = ⟨#[]⟩ ∧ rs = [] ∧ er = 3) ∨ (V = true ∧ s1 = s2 ∧ s = s1 ∧ tc = TX c ∧ Can ltB rs ∧ (∀ n, cof rs n = f n) ∧ er = 0)
theorem Res.uniq {V : Bool} {s1 s2 : Int} {c : Rat} {f : List UInt8 → Rat} {s s' : Int} {tc tc' : ByteArray} {rs rs' : List (List UInt8 × Rat)} {er er' : Int} (h : Res V s1 s2 c f s tc rs er) (h' : Res V s1 s2 c f s' tc' rs' er') : s' = s ∧ tc' = tc ∧ rs' = rs ∧ er' = er := by
 rcases h with ⟨h1, rfl, rfl, rfl, rfl⟩ | ⟨h1, h2, rfl, rfl, rfl, rfl⟩ | ⟨h1, h2, rfl, rfl, h3, h4, rfl⟩ <;> rcases h' with ⟨k1, rfl, rfl, rfl, rfl⟩ | ⟨k1, k2, rfl, rfl, rfl, rfl⟩ | ⟨k1, k2, rfl, rfl, k3, k4, rfl⟩ <;> first
  | exact ⟨rfl, rfl, rfl, rfl⟩
  | exact ⟨rfl, rfl, can_ext ord_ltB _ _ k3 h3 fun n => (k4 n).trans (h4 n).symm, rfl⟩
  | exact absurd k2 h2
  | exact absurd h2 k2
  | exact Bool.noConfusion (h1.symm.trans k1)
theorem addP_res {U : List (List UInt8)} {V : Bool} {s1 s2 : Int} {d : Nat} {c : Rat} {f : List UInt8 → Rat} {w : World} {e : Ending} {w' : World} (h : AddP U V s1 s2 d c f w e w') :
    ∃ (s : Int) (tc : ByteArray) (rs : List (List UInt8 × Rat)) (er : Int) (ao : Option Addr) (g off cap : Nat), e = .returned (.tuple #[.agg #[.int .i64 s, .slice ao rs.length cap, .string tc], .int .i64 er]) ∧ CSl w' ao g off cap rs ∧ Res V s1 s2 c f s tc rs er ∧ Below w.heap.size w w' := by
 have hz : CSl w' none 0 0 0 [] := ⟨Nat.le_refl _, by omega, fun h => by omega, fun i hi => absurd hi (by simp), fun i hi => absurd hi (by simp)⟩
 rcases h with ⟨h1, h2, h3⟩ | ⟨h1, h2, h3, h4⟩ | ⟨h1, h2, rs, ao, g, off, cap, h3, h4, -, h5, -, h6, h7⟩
 · exact ⟨0, ⟨#[]⟩, [], 1, none, 0, 0, 0, h2, hz, .inl ⟨h1, rfl, rfl, rfl, rfl⟩, h3⟩
 · exact ⟨0, ⟨#[]⟩, [], 3, none, 0, 0, 0, h3, hz, .inr (.inl ⟨h1, h2, rfl, rfl, rfl, rfl⟩), h4⟩
 · exact ⟨s1, TX c, rs, 0, ao, g, off, cap, h3, h4, .inr (.inr ⟨h1, h2, rfl, rfl, h5.can, h6, rfl⟩), h7⟩
/-- a result in its box -/
def REB (W : World) (B : Nat) (s : Int) (tc : ByteArray) (rs : List (List UInt8 × Rat)) : Prop := ∃ (ao : Option Addr) (g off cap : Nat), W.heap[B]? = some (.cells #[.int .i64 s, .slice ao rs.length cap, .string tc] 26 (0, 0)) ∧ CSl W ao g off cap rs
theorem REB.far {W W' : World} {B : Nat} {s : Int} {tc : ByteArray} {rs : List (List UInt8 × Rat)} (h : REB W B s tc rs) (hb : Below W.heap.size W W') : REB W' B s tc rs := by
 obtain ⟨ao, g, off, cap, h1, h2⟩ := h;exact ⟨ao, g, off, cap, (hb.block _ (lt_of_heap h1)).trans h1, h2.far hb⟩
theorem REB.new {W : World} {s : Int} {tc : ByteArray} {rs : List (List UInt8 × Rat)} {ao : Option Addr} {g off cap : Nat} (h : CSl W ao g off cap rs) : REB (W.alloc (.cells #[.int .i64 s, .slice ao rs.length cap, .string tc] 26)) W.heap.size s tc rs :=
 ⟨ao, g, off, cap, heap_alloc_new _ _, h.far ((Below.refl _ _).alloc (Nat.le_refl _) _)⟩
end Go.Proofs.YteoklapcifonaaaGreatDoor

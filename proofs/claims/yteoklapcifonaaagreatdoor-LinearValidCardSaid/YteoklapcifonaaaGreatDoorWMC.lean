/- Constraints are drawn. -/
import Derived.Test.YteoklapcifonaaaGreatDoorWLJ
import Derived.Test.YteoklapcifonaaaGreatDoorWLO
import Derived.Test.YteoklapcifonaaaGreatDoorWLD
namespace Go.Proofs.YteoklapcifonaaaGreatDoor
open Go.RowKit Nmx

/-- the relation, the sort and the modulus of a drawn constraint fit -/
def ConOk (r s : Int) (tm : ByteArray) : Prop := (s = 2 ∨ s = 3) ∧ ((1 ≤ r ∧ r ≤ 3 ∧ tm = ⟨#[]⟩) ∨ (4 ≤ r ∧ r ≤ 5 ∧ s = 2 ∧ ∃ m : Int, 1 ≤ m ∧ m ≤ 12 ∧ tm = TX (m : Rat)))
/-- what (*Choices).Constraint hands back -/
def ConG (C : Nat) (ao : Option Addr) (n cap : Nat) (w : World) (e : Ending) (w' : World) : Prop := ∃ r s cs q bo m cp tx tm, e = .returned (.agg #[.int .i64 r, .int .i64 s, .slice bo m cp, .string tx, .string tm]) ∧ LV w' (.agg #[.int .i64 s, .slice bo m cp, .string tx]) s 26 q cs ∧ ConOk r s tm ∧ Ch C ao n cap w' ∧ w.grownBy w' (some C)
theorem lin_open {C : Nat} {ao : Option Addr} {n cap : Nat} {w : World} {s : Int} {e : Ending} {w' : World} (h : LinPost C ao n cap w s e w') : ∃ cs q bo m cp tx, e = .returned (.agg #[.int .i64 s, .slice bo m cp, .string tx]) ∧ LV w' (.agg #[.int .i64 s, .slice bo m cp, .string tx]) s 26 q cs ∧ Ch C ao n cap w' ∧ w.grownBy w' (some C) := by
  obtain ⟨cs, q, v, rfl, hl, hc, hg⟩ := h;have hl' := hl;obtain ⟨bo, g, off, cp, rfl, -⟩ := hl';exact ⟨cs, q, _, _, _, _, rfl, hl, hc, hg⟩
theorem LV.length {w : World} {s s' : Int} {ao : Option Addr} {n cp : Nat} {tx : ByteArray} {d : Nat} {c : Rat} {cs : List (List UInt8 × Rat)} (h : LV w (.agg #[.int .i64 s, .slice ao n cp, .string tx]) s' d c cs) : n = cs.length ∧ tx = TX c ∧ DS d c := by
  obtain ⟨_, _, _, _, he, -, -, -, dc⟩ := h;injection he with he;injection he with he;injection he with _ he;injection he with he1 he;injection he with he2 _;injection he1 with _ e2 _;injection he2 with e4;exact ⟨e2, e4, dc⟩
theorem LV.good {w : World} {v : Value} {s : Int} {d : Nat} {c : Rat} {cs : List (List UInt8 × Rat)} (h : LV w v s d c cs) : Good d cs ∧ DS d c :=
  let ⟨_, _, _, _, _, _, _, h4, h5⟩ := h; ⟨h4, h5⟩
theorem LV.grown {w w' : World} {v : Value} {s : Int} {d : Nat} {c : Rat} {cs : List (List UInt8 × Rat)} {C : Nat} {ao : Option Addr} {n cap : Nat} (h : LV w v s d c cs) (hc : Ch C ao n cap w) (hg : w.grownBy w' (some C)) : LV w' v s d c cs := by
  obtain ⟨i, -, hC⟩ := hc.blk;obtain ⟨ao, g, off, cap, h1, h2, h3, h4, h5⟩ := h
  have same : ∀ cur fr', w.heap[g]? = some (.cells cur 79 fr') → w'.heap[g]? = w.heap[g]? := fun cur fr' h3 => hg.block g (lt_of_heap h3) fun e => by
    have e := Option.some.inj e;rw [e, hC] at h3;cases h3
  refine ⟨ao, g, off, cap, h1, ?_, ?_, h4, h5⟩
  · refine ⟨h2.le, h2.most, h2.ad, fun i hi => ?_, fun i hi => ?_⟩
    all_goals
      rcases h3 with rfl | ⟨cur, fr', h3⟩
      · exact absurd hi (by simp)
      · rw [World.cell?_of_block (w := w) (w' := w') (a := ⟨g, _, none⟩) (same _ _ h3)]
        first | exact h2.nm i hi | exact h2.nu i hi
  · exact h3.imp id fun ⟨cur, fr', h3⟩ => ⟨cur, fr', (same _ _ h3).trans h3⟩
theorem fin_put {w W W1 : World} {C S : Nat} {ao : Option Addr} {n cap : Nat} (hc : Ch C ao n cap W) (hg : w.grownBy W (some C)) (hCS : C < S) (hS : w.heap.size ≤ S) (g : W.grownBy W1 (some S)) : Ch C ao n cap W1 ∧ w.grownBy W1 (some C) :=
  ⟨hc.grown g (fun k hk => by cases hk; exact hCS), growL hg g (fun k hk => .inl (by cases hk; exact hS))⟩
theorem set5_grown (w : World) (R : Nat) (x0 x1 x2 x3 x4 : Value) : w.grownBy (((((w.setCell ⟨R, 0, none⟩ x0).setCell ⟨R, 1, none⟩ x1).setCell ⟨R, 2, none⟩ x2).setCell ⟨R, 3, none⟩ x3).setCell ⟨R, 4, none⟩ x4) (some R) :=
  grown_setCell (grown_setCell (grown_setCell (grown_setCell (grown_setCell (grown_refl w (some R)) 0 x0) 1 x1) 2 x2) 3 x3) 4 x4
/-- while a constraint is drawn: R is the result's box -/
structure GC (w W : World) (C : Nat) (ao : Option Addr) (n cap : Nat) : Prop where
  ch : Ch C ao n cap W
  r : W.heap[w.heap.size]? = some (.cells #[.int .i64 0, .int .i64 0, .slice none 0 0, .string ⟨#[]⟩, .string ⟨#[]⟩] 39 (0, 0))
  lt : C < w.heap.size
  gr : w.grownBy W (some C)
theorem GC.call {w W W' : World} {C : Nat} {ao : Option Addr} {n cap : Nat} (h : GC w W C ao n cap) (hc : Ch C ao n cap W') (hg : W.grownBy W' (some C)) : GC w W' C ao n cap :=
  ⟨hc, (hg.block _ (lt_of_heap h.r) (fun e => by have := Option.some.inj e; have := h.lt; omega)).trans h.r, h.lt, grown_trans h.gr hg⟩
theorem GC.far {w W W' : World} {C : Nat} {ao : Option Addr} {n cap : Nat} (h : GC w W C ao n cap) (hb : Below W.heap.size W W') : GC w W' C ao n cap :=
  ⟨h.ch.call hb, (hb.block _ (lt_of_heap h.r)).trans h.r, h.lt, grown_call h.gr hb⟩
section
set_option maxRecDepth 100000
set_option maxHeartbeats 8000000
theorem constraint_any (C : Nat) (ao : Option Addr) (n cap : Nat) (w : World) (h : Ch C ao n cap w) : Calls Tryz.prog 21 #[.pointer (some ⟨C, 0, none⟩)] w (ConG C ao n cap w) := by
  have hal : Below w.heap.size w (w.alloc (.cells #[.int .i64 0, .int .i64 0, .slice none 0 0, .string ⟨#[]⟩, .string ⟨#[]⟩] 39)) := (Below.refl _ _).alloc (Nat.le_refl _) _;have HG := Lib.hid (⟨h.call hal, heap_alloc_new w _, h.lt, grown_more (r := some C) (grown_below hal)⟩ : GC w (w.alloc (.cells #[.int .i64 0, .int .i64 0, .slice none 0 0, .string ⟨#[]⟩, .string ⟨#[]⟩] 39)) C ao n cap);clear h hal
  go_enter Tryz.func21, Tryz.ntmps21
  go_wp2_with fail
  generalize w.alloc (.cells #[.int .i64 0, .int .i64 0, .slice none 0 0, .string ⟨#[]⟩, .string ⟨#[]⟩] 39) = w0 at *;refine (next_any _ _ _ _ _ 5 (by omega) (by omega) HG.out.ch).mono ?_;rintro e w1 ⟨r1, hr1, rfl, hch, hg, -⟩;replace HG := Lib.hid (HG.out.call hch hg);clear hch hg;have q0 : (0 : Int) ≤ (r1 : Int) := by omega
  have q1 : (r1 : Int) < 5 := by omega
  go_wp2_with fail
  refine (next_any _ _ _ _ _ 2 (by omega) (by omega) HG.out.ch).mono ?_;rintro e w2 ⟨r2, hr2, rfl, hch, hg, -⟩;replace HG := Lib.hid (HG.out.call hch hg);clear hch hg;have q2 : (0 : Int) ≤ (r2 : Int) := by omega
  have q3 : (r2 : Int) < 2 := by omega
  by_cases h3 : (4 : Int) ≤ 1 + (r1 : Int)
  · obtain ⟨rel, hrel⟩ : ∃ rel : Int, 1 + (r1 : Int) = rel := ⟨_, rfl⟩
    have k1 : rel ≤ 5 := by omega
    rw [hrel] at h3;have HK : Hid (4 ≤ rel ∧ rel ≤ 5) := Lib.hid ⟨h3, k1⟩
    go_wp2_with fail
    refine (linear_any C ao n cap 2 w2 HG.out.ch).mono ?_;intro e w3 hp;obtain ⟨cs, q, bo, m, cp, tx, rfl, hl, hch, hg⟩ := lin_open hp;replace HG := Lib.hid (HG.out.call hch hg);have HL := Lib.hid hl;clear hch hg hp hl
    go_wp2_with fail
    have hal := (Below.refl w3.heap.size w3).alloc (Nat.le_refl _) (.cells #[.int .i64 rel, .int .i64 2, .slice bo m cp, .string tx, .string ⟨#[]⟩] 39);have hS := HG.out.ch.lt;have hT := lt_of_heap HG.out.r;replace HG := Lib.hid (HG.out.far hal);replace HL := Lib.hid (HL.out.far hal);have HX := Lib.hid (heap_alloc_new w3 (.cells #[.int .i64 rel, .int .i64 2, .slice bo m cp, .string tx, .string ⟨#[]⟩] 39));have HW : Hid (w.heap.size ≤ w3.heap.size) := Lib.hid (Nat.le_of_lt hT);clear hal;generalize w3.alloc (.cells #[.int .i64 rel, .int .i64 2, .slice bo m cp, .string tx, .string ⟨#[]⟩] 39) = w4 at *;generalize w3.heap.size = S at *;have HS : Hid (C < S) := Lib.hid hS;have HT : Hid (w.heap.size < S) := Lib.hid hT;clear hS hT;have HC4 := Lib.hid HG.out.ch;refine (next_any _ _ _ _ _ 12 (by omega) (by omega) HG.out.ch).mono ?_;rintro e w5 ⟨r3, hr3, rfl, hch, hg, -⟩;have hne : ∀ g, g < w4.heap.size → g ≠ C → w5.heap[g]? = w4.heap[g]? := fun g hg' hne => hg.block _ hg' (fun e => hne (Option.some.inj e))
    replace HG := Lib.hid (HG.out.call hch hg);replace HX := Lib.hid ((hne S (lt_of_heap HX.out) (fun e => by have := HS.out; omega)).trans HX.out);replace HL := Lib.hid (LV.grown HL.out HC4.out hg);clear hch hg hne;have q4 : (0 : Int) ≤ (r3 : Int) := by omega
    have q5 : (r3 : Int) < 12 := by omega
    obtain ⟨z, hz⟩ : ∃ z : Int, 1 + (r3 : Int) = z := ⟨_, rfl⟩
    have HZ : Hid (1 ≤ z ∧ z ≤ 12) := Lib.hid (by omega)
    go_wp2_with fail
    refine (refFromIntT z (by omega) (by omega) _).mono ?_;rintro e w6 ⟨rfl, hb⟩;replace HG := Lib.hid (HG.out.far hb);replace HX := Lib.hid ((hb.block _ (lt_of_heap HX.out)).trans HX.out);replace HL := Lib.hid (HL.out.far hb);clear hb hz q0 q1 q2 q3 q4 q5;obtain ⟨tm, htm⟩ : ∃ tm, TX (z : Rat) = tm := ⟨_, rfl⟩
    rw [htm];have HM := Lib.hid htm;clear htm;have fr := fun i => heap_fz HX.out i
    have fr2 := fun i => heap_fz HG.out.r i
    have hST : w.heap.size ≠ S := Nat.ne_of_lt HT.out;have z0 := heap_cell HX.out 0;have z1 := heap_cell HX.out 1;have z2 := heap_cell HX.out 2;have z3 := heap_cell HX.out 3;have z4 := heap_cell HX.out 4;have y0 := heap_cell HG.out.r 0;have y1 := heap_cell HG.out.r 1;have y2 := heap_cell HG.out.r 2;have y3 := heap_cell HG.out.r 3;have y4 := heap_cell HG.out.r 4
    go_wp2_with fail
    have HST := Lib.hid hST;have HCR := Lib.hid HG.out.lt;obtain ⟨hc1, hg1⟩ := fin_put HG.out.ch HG.out.gr HS.out (Nat.le_of_lt HT.out) (grown_setCell (grown_refl w6 (some S)) 4 (.string tm));have hr1 := (Below.heap_setCell w6 ⟨S, 4, none⟩ (.string tm) w.heap.size HST.out).trans HG.out.r;have hl1 := HL.out.but HX.out (by decide) (w' := w6.setCell ⟨S, 4, none⟩ (.string tm)) (fun g hg => Below.heap_setCell _ _ _ _ hg);obtain ⟨hc2, hg2⟩ := fin_put hc1 hg1 HCR.out (Nat.le_refl _) (set5_grown (w6.setCell ⟨S, 4, none⟩ (.string tm)) w.heap.size (.int .i64 rel) (.int .i64 2) (.slice bo m cp) (.string tx) (.string tm));exact end_con rfl rfl rfl (set5_heap hr1 _ _ _ _ _) ⟨rel, 2, cs, q, bo, m, cp, tx, tm, rfl, hl1.but hr1 (by decide) (fun g hg => set5_other _ _ _ _ _ hg), ⟨.inl rfl, .inr ⟨HK.out.1, HK.out.2, rfl, z, HZ.out.1, HZ.out.2, HM.out.symm⟩⟩, hc2, hg2⟩
  · obtain ⟨rel, hrel⟩ : ∃ rel : Int, 1 + (r1 : Int) = rel := ⟨_, rfl⟩
    obtain ⟨so, hso⟩ : ∃ so : Int, 2 + (r2 : Int) = so := ⟨_, rfl⟩
    have HK : Hid (1 ≤ rel ∧ rel ≤ 3) := Lib.hid (by omega);have HSO : Hid (so = 2 ∨ so = 3) := Lib.hid (by omega);have h4 : ¬ (4 : Int) ≤ rel := by omega
    clear h3
    go_wp2_with fail
    refine (linear_any C ao n cap so w2 HG.out.ch).mono ?_;intro e w3 hp;obtain ⟨cs, q, bo, m, cp, tx, rfl, hl, hch, hg⟩ := lin_open hp;replace HG := Lib.hid (HG.out.call hch hg);have HL := Lib.hid hl;clear hch hg hp hl q0 q1 q2 q3 hso hrel;have fr2 := fun i => heap_fz HG.out.r i
    have hlt := lt_of_heap HG.out.r;have y0 := heap_cell HG.out.r 0;have y1 := heap_cell HG.out.r 1;have y2 := heap_cell HG.out.r 2;have y3 := heap_cell HG.out.r 3;have y4 := heap_cell HG.out.r 4
    go_wp2_with fail
    obtain ⟨hc2, hg2⟩ := fin_put HG.out.ch HG.out.gr HG.out.lt (Nat.le_refl _) (set5_grown w3 w.heap.size (.int .i64 rel) (.int .i64 so) (.slice bo m cp) (.string tx) (.string ⟨#[]⟩));have hl2 := HL.out.but HG.out.r (by decide) (fun g hg => set5_other (.int .i64 rel) (.int .i64 so) (.slice bo m cp) (.string tx) (.string ⟨#[]⟩) hg);have hr2 := set5_heap HG.out.r (.int .i64 rel) (.int .i64 so) (.slice bo m cp) (.string tx) (.string ⟨#[]⟩);generalize (((((w3.setCell ⟨w.heap.size, 0, none⟩ (.int .i64 rel)).setCell ⟨w.heap.size, 1, none⟩ (.int .i64 so)).setCell ⟨w.heap.size, 2, none⟩ (.slice bo m cp)).setCell ⟨w.heap.size, 3, none⟩ (.string tx)).setCell ⟨w.heap.size, 4, none⟩ (.string ⟨#[]⟩)) = w4 at *;have hal := (Below.refl w4.heap.size w4).alloc (Nat.le_refl _) (.cells #[.int .i64 rel, .int .i64 so, .slice bo m cp, .string tx, .string ⟨#[]⟩] 39);exact end_con rfl rfl rfl (heap_al hr2 _) ⟨rel, so, cs, q, bo, m, cp, tx, ⟨#[]⟩, rfl, hl2.far hal, ⟨HSO.out, .inl ⟨HK.out.1, HK.out.2, rfl⟩⟩, hc2.call hal, grown_call hg2 hal⟩
end
end Go.Proofs.YteoklapcifonaaaGreatDoor
/- ValidConstraint at drawn constraints; constant. -/
namespace Go.Proofs.YteoklapcifonaaaGreatDoor
open Go.RowKit Nmx

end Go.Proofs.YteoklapcifonaaaGreatDoor
/- compares; sameConstraint; Normal at constraints without variables. -/
namespace Go.Proofs.YteoklapcifonaaaGreatDoor
open Go.RowKit Nmx

end Go.Proofs.YteoklapcifonaaaGreatDoor
/- normalComparison for every relation and sort. -/
namespace Go.Proofs.YteoklapcifonaaaGreatDoor
open Go.RowKit Nmx

/-- the boxes of normalComparison -/
structure NG (w W : World) (T : Nat) (r s : Int) (a1 : Option Addr) (n1 c1 : Nat) (t1 : ByteArray) (x0 x1 x2 x3 x4 x5 : Value) (k : Rat) : Prop where
  a : W.heap[w.heap.size]? = some (.cells #[.int .i64 r, .int .i64 s, .slice a1 n1 c1, .string t1, .string ⟨#[]⟩] 39 (0, 0))
  r : W.heap[w.heap.size + 1]? = some (.cells #[.int .i64 0, .int .i64 0, .slice none 0 0, .string ⟨#[]⟩, .string ⟨#[]⟩] 39 (0, 0))
  t : W.heap[T]? = some (.cells #[x0, x1, x2, x3, x4, x5] 85 (0, 0))
  kv : RV W (.agg #[x0, x1, x2, x3, x4, x5]) k
  lt : w.heap.size + 1 < T
  bel : Below w.heap.size w W
theorem NG.far {w W W' : World} {T : Nat} {r s : Int} {a1 : Option Addr} {n1 c1 : Nat} {t1 : ByteArray} {x0 x1 x2 x3 x4 x5 : Value} {k : Rat} (h : NG w W T r s a1 n1 c1 t1 x0 x1 x2 x3 x4 x5 k) (hb : Below W.heap.size W W') : NG w W' T r s a1 n1 c1 t1 x0 x1 x2 x3 x4 x5 k :=
  ⟨(hb.block _ (lt_of_heap h.a)).trans h.a, (hb.block _ (lt_of_heap h.r)).trans h.r, (hb.block _ (lt_of_heap h.t)).trans h.t, h.kv.far hb, h.lt, h.bel.trans (hb.mono h.bel.size)⟩
theorem NG.put {w W : World} {T : Nat} {r s : Int} {a1 : Option Addr} {n1 c1 : Nat} {t1 : ByteArray} {x0 x1 x2 x3 x4 x5 : Value} {k : Rat} (h : NG w W T r s a1 n1 c1 t1 x0 x1 x2 x3 x4 x5 k) {y0 y1 y2 y3 y4 y5 : Value} {q : Rat} (hq : RV W (.agg #[y0, y1, y2, y3, y4, y5]) q) : NG w ((((((W.setCell ⟨T, 0, none⟩ y0).setCell ⟨T, 1, none⟩ y1).setCell ⟨T, 2, none⟩ y2).setCell ⟨T, 3, none⟩ y3).setCell ⟨T, 4, none⟩ y4).setCell ⟨T, 5, none⟩ y5) T r s a1 n1 c1 t1 y0 y1 y2 y3 y4 y5 q := by
  have h1 := h.lt;have ho : ∀ g, g ≠ T → ((((((W.setCell ⟨T, 0, none⟩ y0).setCell ⟨T, 1, none⟩ y1).setCell ⟨T, 2, none⟩ y2).setCell ⟨T, 3, none⟩ y3).setCell ⟨T, 4, none⟩ y4).setCell ⟨T, 5, none⟩ y5).heap[g]? = W.heap[g]? := fun _ hg => set6_other hg _ _ _ _ _ _
  exact ⟨(ho _ (by omega)).trans h.a, (ho _ (by omega)).trans h.r, set6_heap h.t _ _ _ _ _ _, hq.but h.t (by decide) ho, h1, set6_below h.bel (by omega) _ _ _ _ _ _⟩
theorem NG.but {w W W' : World} {T : Nat} {r s : Int} {a1 : Option Addr} {n1 c1 : Nat} {t1 : ByteArray} {x0 x1 x2 x3 x4 x5 : Value} {k : Rat} (h : NG w W T r s a1 n1 c1 t1 x0 x1 x2 x3 x4 x5 k) {B : Nat} {cs : Array Value} {fr : Nat × Nat} (hB : W.heap[B]? = some (.cells cs 39 fr)) (hT : T < B) (ho : ∀ g, g ≠ B → W'.heap[g]? = W.heap[g]?) (hb : Below w.heap.size w W') : NG w W' T r s a1 n1 c1 t1 x0 x1 x2 x3 x4 x5 k := by
  have h1 := h.lt;exact ⟨(ho _ (by omega)).trans h.a, (ho _ (by omega)).trans h.r, (ho _ (by omega)).trans h.t, h.kv.but hB (by decide) ho, h1, hb⟩
end Go.Proofs.YteoklapcifonaaaGreatDoor
/- Normal at comparisons. -/
namespace Go.Proofs.YteoklapcifonaaaGreatDoor
open Go.RowKit Nmx

section
set_option maxRecDepth 100000
set_option maxHeartbeats 8000000
/-- the boxes of Normal -/
structure NBX (w W : World) (r s : Int) (a1 : Option Addr) (n1 c1 : Nat) (t1 : ByteArray) : Prop where
  a : W.heap[w.heap.size]? = some (.cells #[.int .i64 r, .int .i64 s, .slice a1 n1 c1, .string t1, .string ⟨#[]⟩] 39 (0, 0))
  r : W.heap[w.heap.size + 1]? = some (.cells #[.int .i64 0, .int .i64 0, .slice none 0 0, .string ⟨#[]⟩, .string ⟨#[]⟩] 39 (0, 0))
  bel : Below w.heap.size w W
theorem NBX.far {w W W' : World} {r s : Int} {a1 : Option Addr} {n1 c1 : Nat} {t1 : ByteArray} (h : NBX w W r s a1 n1 c1 t1) (hb : Below W.heap.size W W') : NBX w W' r s a1 n1 c1 t1 :=
  ⟨(hb.block _ (lt_of_heap h.a)).trans h.a, (hb.block _ (lt_of_heap h.r)).trans h.r, h.bel.trans (hb.mono h.bel.size)⟩
end
end Go.Proofs.YteoklapcifonaaaGreatDoor

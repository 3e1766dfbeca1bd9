/- Constraints are drawn. -/
import Derived.Test.YteoklapcifonaaaGreatDoorNLJ
import Derived.Test.YteoklapcifonaaaGreatDoorNLM
import Derived.Test.YteoklapcifonaaaGreatDoorNLD
open Go.Lib (hid)
namespace Go.Proofs.YteoklapcifonaaaGreatDoor
open Go.RowKit Nmx
/-- the relation, the sort and the modulus of a drawn constraint fit -/
def ConOk (r s : Int) (tm : ByteArray) : Prop := (s = 2 ∨ s = 3) ∧ ((1 ≤ r ∧ r ≤ 3 ∧ tm = ⟨#[]⟩) ∨ (4 ≤ r ∧ r ≤ 5 ∧ s = 2 ∧ ∃ m : Int, 1 ≤ m ∧ m ≤ 12 ∧ tm = TX (m : Rat)))
/-- what (*Choices).Constraint hands back -/
def ConG (C : Nat) (ao : Option Addr) (n cap : Nat) (w : World) (e : Ending) (w' : World) : Prop := ∃ r s cs q bo m cp tx tm, e = .returned (.agg #[.int .i64 r, .int .i64 s, .slice bo m cp, .string tx, .string tm]) ∧ LV w' (.agg #[.int .i64 s, .slice bo m cp, .string tx]) s 26 q cs ∧ ConOk r s tm ∧ Ch C ao n cap w' ∧ w.grownBy w' (some C)
theorem lin_open {C : Nat} {ao : Option Addr} {n cap : Nat} {w : World} {s : Int} {e : Ending} {w' : World} (h : LinPost C ao n cap w s e w') : ∃ cs q bo m cp tx, e = .returned (.agg #[.int .i64 s, .slice bo m cp, .string tx]) ∧ LV w' (.agg #[.int .i64 s, .slice bo m cp, .string tx]) s 26 q cs ∧ Ch C ao n cap w' ∧ w.grownBy w' (some C) := by
 obtain ⟨cs, q, v, rfl, hl, hc, hg⟩ := h;have hl' := hl;obtain ⟨bo, g, off, cp, rfl, -⟩ := hl';exact ⟨cs, q, _, _, _, _, rfl, hl, hc, hg⟩
theorem LV.length [Nms] {w : World} {s s' : Int} {ao : Option Addr} {n cp : Nat} {tx : ByteArray} {d : Nat} {c : Rat} {cs : List (List UInt8 × Rat)} (h : LV w (.agg #[.int .i64 s, .slice ao n cp, .string tx]) s' d c cs) : n = cs.length ∧ tx = TX c ∧ DS d c := by
 obtain ⟨_, _, _, _, he, -, -, -, dc⟩ := h;injection he with he;injection he with he;injection he with _ he;injection he with he1 he;injection he with he2 _;injection he1 with _ e2 _;injection he2 with e4;exact ⟨e2, e4, dc⟩
theorem LV.good [Nms] {w : World} {v : Value} {s : Int} {d : Nat} {c : Rat} {cs : List (List UInt8 × Rat)} (h : LV w v s d c cs) : Good d cs ∧ DS d c :=
 let ⟨_, _, _, _, _, _, _, h4, h5⟩ := h; ⟨h4, h5⟩
theorem LV.grown [Nms] {w w' : World} {v : Value} {s : Int} {d : Nat} {c : Rat} {cs : List (List UInt8 × Rat)} {C : Nat} {ao : Option Addr} {n cap : Nat} (h : LV w v s d c cs) (hc : Ch C ao n cap w) (hg : w.grownBy w' (some C)) : LV w' v s d c cs := by
 obtain ⟨i, -, hC⟩ := hc.blk;obtain ⟨ao, g, off, cap, h1, h2, h3, h4, h5⟩ := h
 have same : ∀ cur fr', w.heap[g]? = some (.cells cur 79 fr') → w'.heap[g]? = w.heap[g]? := fun cur fr' h3 => hg.block g (ab h3) fun e => by
  have e := Option.some.inj e;rw [e, hC] at h3;cases h3
 refine ⟨ao, g, off, cap, h1, ?_, ?_, h4, h5⟩
 · refine ⟨h2.le, h2.most, h2.ad, fun i hi => ?_, fun i hi => ?_⟩
   all_goals
    rcases h3 with rfl | ⟨cur, fr', h3⟩
    · exact absurd hi (by simp)
    · rw [World.cell?_of_block (w := w) (w' := w') (a := ⟨g, _, none⟩) (same _ _ h3)]
      first | exact h2.nm i hi | exact h2.nu i hi
 · exact h3.imp id fun ⟨cur, fr', h3⟩ => ⟨cur, fr', (same _ _ h3).trans h3⟩
theorem fin_put {w W W1 : World} {C S : Nat} {ao : Option Addr} {n cap : Nat} (hc : Ch C ao n cap W) (hg : w.grownBy W (some C)) (hCS : C < S) (hS : w.heap.size ≤ S) (g : W.grownBy W1 (some S)) : Ch C ao n cap W1 ∧ w.grownBy W1 (some C) :=
 ⟨hc.grown g (fun k hk => by cases hk; exact hCS), growL hg g (fun k hk => .inl (by cases hk; exact hS))⟩
theorem set5_grown (w : World) (R : Nat) (x0 x1 x2 x3 x4 : Value) : w.grownBy (((((w.setCell ⟨R, 0, none⟩ x0).setCell ⟨R, 1, none⟩ x1).setCell ⟨R, 2, none⟩ x2).setCell ⟨R, 3, none⟩ x3).setCell ⟨R, 4, none⟩ x4) (some R) :=
 bf (bf (bf (bf (bf (grown_refl w (some R)) 0 x0) 1 x1) 2 x2) 3 x3) 4 x4
/-- while a constraint is drawn: R is the result's box -/
structure GC (w W : World) (C : Nat) (ao : Option Addr) (n cap : Nat) : Prop where
 ch : Ch C ao n cap W
 r : W.heap[w.heap.size]? = some (.cells #[.int .i64 0, .int .i64 0, .slice none 0 0, .string ⟨#[]⟩, .string ⟨#[]⟩] 39 (0, 0))
 lt : C < w.heap.size
 gr : w.grownBy W (some C)
theorem GC.call {w W W' : World} {C : Nat} {ao : Option Addr} {n cap : Nat} (h : GC w W C ao n cap) (hc : Ch C ao n cap W') (hg : W.grownBy W' (some C)) : GC w W' C ao n cap :=
 ⟨hc, (hg.block _ (ab h.r) (fun e => by have := Option.some.inj e; have := h.lt; omega)).trans h.r, h.lt, grown_trans h.gr hg⟩
theorem GC.far {w W W' : World} {C : Nat} {ao : Option Addr} {n cap : Nat} (h : GC w W C ao n cap) (hb : Below W.heap.size W W') : GC w W' C ao n cap :=
 ⟨h.ch.call hb, (hb.block _ (ab h.r)).trans h.r, h.lt, bO h.gr hb⟩
section
set_option maxRecDepth 100000
set_option maxHeartbeats 8000000
theorem constraint_any (C : Nat) (ao : Option Addr) (n cap : Nat) (w : World) (h : Ch C ao n cap w) : Calls Tryz.prog 21 #[.pointer (some ⟨C, 0, none⟩)] w (ConG C ao n cap w) := by
 have hal : Below w.heap.size w (w.alloc (.cells #[.int .i64 0, .int .i64 0, .slice none 0 0, .string ⟨#[]⟩, .string ⟨#[]⟩] 39)) := (Below.refl _ _).alloc (Nat.le_refl _) _;have HG := hid (⟨h.call hal, heap_alloc_new w _, h.lt, grown_more (r := some C) (grown_below hal)⟩ : GC w (w.alloc (.cells #[.int .i64 0, .int .i64 0, .slice none 0 0, .string ⟨#[]⟩, .string ⟨#[]⟩] 39)) C ao n cap);clear h hal
 go_enter Tryz.func21, Tryz.ntmps21
 go_wp2_with fail
 generalize w.alloc (.cells #[.int .i64 0, .int .i64 0, .slice none 0 0, .string ⟨#[]⟩, .string ⟨#[]⟩] 39) = w0 at *;refine (next_any _ _ _ _ _ 5 (by omega) (by omega) HG.out.ch).mono ?_;rintro e w1 ⟨r1, hr1, rfl, hch, hg, -⟩;replace HG := hid (HG.out.call hch hg);clear hch hg;have q0 : (0 : Int) ≤ (r1 : Int) := by omega
 have q1 : (r1 : Int) < 5 := by omega
 go_wp2_with fail
 refine (next_any _ _ _ _ _ 2 (by omega) (by omega) HG.out.ch).mono ?_;rintro e w2 ⟨r2, hr2, rfl, hch, hg, -⟩;replace HG := hid (HG.out.call hch hg);clear hch hg;have q2 : (0 : Int) ≤ (r2 : Int) := by omega
 have q3 : (r2 : Int) < 2 := by omega
 by_cases h3 : (4 : Int) ≤ 1 + (r1 : Int)
 · obtain ⟨rel, hrel⟩ : ∃ rel : Int, 1 + (r1 : Int) = rel := ⟨_, rfl⟩
   have k1 : rel ≤ 5 := by omega
   rw [hrel] at h3;have HK : Hid (4 ≤ rel ∧ rel ≤ 5) := hid ⟨h3, k1⟩
   go_wp2_with fail
   refine (linear_any C ao n cap 2 w2 HG.out.ch).mono ?_;intro e w3 hp;obtain ⟨cs, q, bo, m, cp, tx, rfl, hl, hch, hg⟩ := lin_open hp;replace HG := hid (HG.out.call hch hg);have HL := hid hl;clear hch hg hp hl
   go_wp2_with fail
   have hal := (Below.refl w3.heap.size w3).alloc (Nat.le_refl _) (.cells #[.int .i64 rel, .int .i64 2, .slice bo m cp, .string tx, .string ⟨#[]⟩] 39);have hS := HG.out.ch.lt;have hT := ab HG.out.r;replace HG := hid (HG.out.far hal);replace HL := hid (HL.out.far hal);have HX := hid (heap_alloc_new w3 (.cells #[.int .i64 rel, .int .i64 2, .slice bo m cp, .string tx, .string ⟨#[]⟩] 39));have HW : Hid (w.heap.size ≤ w3.heap.size) := hid (Nat.le_of_lt hT);clear hal;generalize w3.alloc (.cells #[.int .i64 rel, .int .i64 2, .slice bo m cp, .string tx, .string ⟨#[]⟩] 39) = w4 at *;generalize w3.heap.size = S at *;have HS : Hid (C < S) := hid hS;have HT : Hid (w.heap.size < S) := hid hT;clear hS hT;have HC4 := hid HG.out.ch;refine (next_any _ _ _ _ _ 12 (by omega) (by omega) HG.out.ch).mono ?_;rintro e w5 ⟨r3, hr3, rfl, hch, hg, -⟩;have hne : ∀ g, g < w4.heap.size → g ≠ C → w5.heap[g]? = w4.heap[g]? := fun g hg' hne => hg.block _ hg' (fun e => hne (Option.some.inj e))
   replace HG := hid (HG.out.call hch hg);replace HX := hid ((hne S (ab HX.out) (fun e => by have := HS.out; omega)).trans HX.out);replace HL := hid (LV.grown HL.out HC4.out hg);clear hch hg hne;have q4 : (0 : Int) ≤ (r3 : Int) := by omega
   have q5 : (r3 : Int) < 12 := by omega
   obtain ⟨z, hz⟩ : ∃ z : Int, 1 + (r3 : Int) = z := ⟨_, rfl⟩
   have HZ : Hid (1 ≤ z ∧ z ≤ 12) := hid (by omega)
   go_wp2_with fail
   refine (refFromIntT z (by omega) (by omega) _).mono ?_;rintro e w6 ⟨rfl, hb⟩;replace HG := hid (HG.out.far hb);replace HX := hid ((hb.block _ (ab HX.out)).trans HX.out);replace HL := hid (HL.out.far hb);clear hb hz q0 q1 q2 q3 q4 q5;obtain ⟨tm, htm⟩ : ∃ tm, TX (z : Rat) = tm := ⟨_, rfl⟩
   rw [htm];have HM := hid htm;clear htm;have fr := fun i => ah HX.out i
   have fr2 := fun i => ah HG.out.r i
   have hST : w.heap.size ≠ S := Nat.ne_of_lt HT.out;have z0 := aa HX.out 0;have z1 := aa HX.out 1;have z2 := aa HX.out 2;have z3 := aa HX.out 3;have z4 := aa HX.out 4;have y0 := aa HG.out.r 0;have y1 := aa HG.out.r 1;have y2 := aa HG.out.r 2;have y3 := aa HG.out.r 3;have y4 := aa HG.out.r 4
   go_wp2_with fail
   have HST := hid hST;have HCR := hid HG.out.lt;obtain ⟨hc1, hg1⟩ := fin_put HG.out.ch HG.out.gr HS.out (Nat.le_of_lt HT.out) (bf (grown_refl w6 (some S)) 4 (.string tm));have hr1 := (Below.heap_setCell w6 ⟨S, 4, none⟩ (.string tm) w.heap.size HST.out).trans HG.out.r;have hl1 := HL.out.but HX.out (by decide) (w' := w6.setCell ⟨S, 4, none⟩ (.string tm)) (fun g hg => Below.heap_setCell _ _ _ _ hg);obtain ⟨hc2, hg2⟩ := fin_put hc1 hg1 HCR.out (Nat.le_refl _) (set5_grown (w6.setCell ⟨S, 4, none⟩ (.string tm)) w.heap.size (.int .i64 rel) (.int .i64 2) (.slice bo m cp) (.string tx) (.string tm));exact end_con rfl rfl rfl (az hr1 _ _ _ _ _) ⟨rel, 2, cs, q, bo, m, cp, tx, tm, rfl, hl1.but hr1 (by decide) (fun g hg => aN _ _ _ _ _ hg), ⟨.inl rfl, .inr ⟨HK.out.1, HK.out.2, rfl, z, HZ.out.1, HZ.out.2, HM.out.symm⟩⟩, hc2, hg2⟩
 · obtain ⟨rel, hrel⟩ : ∃ rel : Int, 1 + (r1 : Int) = rel := ⟨_, rfl⟩
   obtain ⟨so, hso⟩ : ∃ so : Int, 2 + (r2 : Int) = so := ⟨_, rfl⟩
   have HK : Hid (1 ≤ rel ∧ rel ≤ 3) := hid (by omega);have HSO : Hid (so = 2 ∨ so = 3) := hid (by omega);have h4 : ¬ (4 : Int) ≤ rel := by omega
   clear h3
   go_wp2_with fail
   refine (linear_any C ao n cap so w2 HG.out.ch).mono ?_;intro e w3 hp;obtain ⟨cs, q, bo, m, cp, tx, rfl, hl, hch, hg⟩ := lin_open hp;replace HG := hid (HG.out.call hch hg);have HL := hid hl;clear hch hg hp hl q0 q1 q2 q3 hso hrel;have fr2 := fun i => ah HG.out.r i
   have hlt := ab HG.out.r;have y0 := aa HG.out.r 0;have y1 := aa HG.out.r 1;have y2 := aa HG.out.r 2;have y3 := aa HG.out.r 3;have y4 := aa HG.out.r 4
   go_wp2_with fail
   obtain ⟨hc2, hg2⟩ := fin_put HG.out.ch HG.out.gr HG.out.lt (Nat.le_refl _) (set5_grown w3 w.heap.size (.int .i64 rel) (.int .i64 so) (.slice bo m cp) (.string tx) (.string ⟨#[]⟩));have hl2 := HL.out.but HG.out.r (by decide) (fun g hg => aN (.int .i64 rel) (.int .i64 so) (.slice bo m cp) (.string tx) (.string ⟨#[]⟩) hg);have hr2 := az HG.out.r (.int .i64 rel) (.int .i64 so) (.slice bo m cp) (.string tx) (.string ⟨#[]⟩);generalize (((((w3.setCell ⟨w.heap.size, 0, none⟩ (.int .i64 rel)).setCell ⟨w.heap.size, 1, none⟩ (.int .i64 so)).setCell ⟨w.heap.size, 2, none⟩ (.slice bo m cp)).setCell ⟨w.heap.size, 3, none⟩ (.string tx)).setCell ⟨w.heap.size, 4, none⟩ (.string ⟨#[]⟩)) = w4 at *;have hal := (Below.refl w4.heap.size w4).alloc (Nat.le_refl _) (.cells #[.int .i64 rel, .int .i64 so, .slice bo m cp, .string tx, .string ⟨#[]⟩] 39);exact end_con rfl rfl rfl (heap_al hr2 _) ⟨rel, so, cs, q, bo, m, cp, tx, ⟨#[]⟩, rfl, hl2.far hal, ⟨HSO.out, .inl ⟨HK.out.1, HK.out.2, rfl⟩⟩, hc2.call hal, bO hg2 hal⟩
end
end Go.Proofs.YteoklapcifonaaaGreatDoor
/- ValidConstraint at drawn constraints; constant. -/
namespace Go.Proofs.YteoklapcifonaaaGreatDoor
open Go.RowKit Nmx
theorem ds_small {m : Int} (h1 : 1 ≤ m) (h2 : m ≤ 12) : DS 2 (m : Rat) := by
 refine ⟨?_, ?_⟩
 · rw [Rat.num_intCast]; omega
 · rw [Rat.den_intCast]; decide
theorem sgn_pos {m : Int} (h : 1 ≤ m) : bc m = 1 := by
 unfold bc;rw [if_neg (by omega), if_pos (by omega)]
section
set_option maxRecDepth 100000
set_option maxHeartbeats 8000000
theorem validCmp {d : Nat} {w : World} {r s : Int} {a1 : Option Addr} {n1 c1 : Nat} {t1 : ByteArray} {p : Rat} {cs : List (List UInt8 × Rat)} (h : LV w (.agg #[.int .i64 s, .slice a1 n1 c1, .string t1]) s d p cs) (hs : s = 2 ∨ s = 3) (hr : r = 1 ∨ r = 2 ∨ r = 3) (hd : d ≤ 3000) (hE : Env w) :
    Calls Tryz.prog 31 #[.agg #[.int .i64 r, .int .i64 s, .slice a1 n1 c1, .string t1, .string ⟨#[]⟩]] w fun e w' => e = .returned (.bool true) ∧ Below w.heap.size w w' := by
 have hal : Below w.heap.size w (w.alloc (.cells #[.int .i64 r, .int .i64 s, .slice a1 n1 c1, .string t1, .string ⟨#[]⟩] 39)) := (Below.refl _ _).alloc (Nat.le_refl _) _;have hv := validL (h.far hal) hs hd (hE.far hal);have HA := hid (heap_alloc_new w (.cells #[.int .i64 r, .int .i64 s, .slice a1 n1 c1, .string t1, .string ⟨#[]⟩] 39));have HB := hid hal;clear h hE hal
 go_enter Tryz.func31, Tryz.ntmps31
 go_wp2_with fail
 refine hv.mono ?_;rintro e w1 ⟨rfl, hb⟩;have hA1 := (hb.block _ (ab HA.out)).trans HA.out;have HB1 := hid (HB.out.trans (hb.mono HB.out.size));have p0 := aa hA1 0;have p4 := aa hA1 4;clear hb hv hA1 hs;rcases hr with rfl | rfl | rfl
 all_goals
  go_wp2
  go_ret
  exact ⟨rfl, HB1.out⟩
theorem validDiv {d : Nat} {w : World} {r m : Int} {a1 : Option Addr} {n1 c1 : Nat} {t1 : ByteArray} {p : Rat} {cs : List (List UInt8 × Rat)} (h : LV w (.agg #[.int .i64 2, .slice a1 n1 c1, .string t1]) 2 d p cs) (hr : r = 4 ∨ r = 5) (h1 : 1 ≤ m) (hm : DS 3000 (m : Rat)) (hd : d ≤ 3000) (hE : Env w) :
    Calls Tryz.prog 31 #[.agg #[.int .i64 r, .int .i64 2, .slice a1 n1 c1, .string t1, .string (TX (m : Rat))]] w fun e w' => e = .returned (.bool true) ∧ Below w.heap.size w w' := by
 have hii := fun W hW => numIsIntT hm (by decide) W hW
 have hsg := fun W hW => numSignT hm (by decide) W hW
 rw [Rat.den_intCast] at hii;rw [Rat.num_intCast, sgn_pos h1] at hsg;generalize TX (m : Rat) = tm at *;have hal : Below w.heap.size w (w.alloc (.cells #[.int .i64 r, .int .i64 2, .slice a1 n1 c1, .string t1, .string tm] 39)) := (Below.refl _ _).alloc (Nat.le_refl _) _;have hv := validL (h.far hal) (.inl rfl) hd (hE.far hal);have HA := hid (heap_alloc_new w (.cells #[.int .i64 r, .int .i64 2, .slice a1 n1 c1, .string t1, .string tm] 39));have HB := hid hal;have HE := hid hE;have HII := hid hii;have HSG := hid hsg;clear h hE hal hm h1 hii hsg
 go_enter Tryz.func31, Tryz.ntmps31
 go_wp2_with fail
 refine hv.mono ?_;rintro e w1 ⟨rfl, hb⟩;replace HA := hid ((hb.block _ (ab HA.out)).trans HA.out);replace HB := hid (HB.out.trans (hb.mono HB.out.size));have p0 := aa HA.out 0;have p1 := aa HA.out 1;have p4 := aa HA.out 4;clear hb hv;rcases hr with rfl | rfl
 all_goals
  go_wp2_with fail
  refine (HII.out _ (HE.out.far HB.out)).mono ?_;rintro e w2 ⟨rfl, hb⟩;replace HA := hid ((hb.block _ (ab HA.out)).trans HA.out);replace HB := hid (HB.out.trans (hb.mono HB.out.size));clear hb p0 p1 p4;have p4 := aa HA.out 4
  go_wp2_with fail
  refine (HSG.out _ (HE.out.far HB.out)).mono ?_;rintro e w3 ⟨rfl, hb⟩;replace HB := hid (HB.out.trans (hb.mono HB.out.size));clear hb p4 HA
  go_wp2
  go_ret
  exact ⟨rfl, HB.out⟩
/-- ValidConstraint at a drawn constraint -/
theorem validC {d : Nat} {w : World} {r s : Int} {a1 : Option Addr} {n1 c1 : Nat} {t1 tm : ByteArray} {p : Rat} {cs : List (List UInt8 × Rat)} (h : LV w (.agg #[.int .i64 s, .slice a1 n1 c1, .string t1]) s d p cs) (hk : ConOk r s tm) (hd : d ≤ 3000) (hE : Env w) :
    Calls Tryz.prog 31 #[.agg #[.int .i64 r, .int .i64 s, .slice a1 n1 c1, .string t1, .string tm]] w fun e w' => e = .returned (.bool true) ∧ Below w.heap.size w w' := by
 rcases hk with ⟨hs, ⟨h1, h2, rfl⟩ | ⟨h1, h2, rfl, m, hm1, hm2, rfl⟩⟩
 · exact validCmp h hs (by omega) hd hE
 · exact validDiv h (by omega) hm1 ((ds_small hm1 hm2).mono (by decide)) hd hE
/-- the constraint true, or false -/
theorem constant_any (b : Bool) (s : Int) (w : World) : Calls Tryz.prog 66 #[.bool b, .int .i64 s] w fun e w' => e = .returned (.agg #[.int .i64 (if b then 1 else 2), .int .i64 s, .slice none 0 0, .string ⟨#[48]⟩, .string ⟨#[]⟩]) ∧ Below w.heap.size w w' := by
 have hr := heap_alloc_new w (.cells #[.int .i64 (if b then 1 else 2), .int .i64 s, .slice none 0 0, .string ⟨#[48]⟩, .string ⟨#[]⟩] 39);have hb := (Below.refl w.heap.size w).alloc (Nat.le_refl _) (.cells #[.int .i64 (if b then 1 else 2), .int .i64 s, .slice none 0 0, .string ⟨#[48]⟩, .string ⟨#[]⟩] 39);have HR := hid hr;have HB := hid hb;clear hr hb;cases b
 all_goals
  go_enter Tryz.func66, Tryz.ntmps66
  go_wp2_with fail
  exact end_con rfl rfl rfl HR.out ⟨rfl, HB.out⟩
end
end Go.Proofs.YteoklapcifonaaaGreatDoor
/- compares; sameConstraint; Normal at constraints without variables. -/
namespace Go.Proofs.YteoklapcifonaaaGreatDoor
open Go.RowKit Nmx
/-- whether a number is in a relation to 0 -/
def cmpF (r : Int) (x : Rat) : Bool := if r = 1 then decide (bc x.num ≤ 0) else if r = 2 then decide (bc x.num < 0) else decide (x.num = 0)
section
set_option maxRecDepth 100000
set_option maxHeartbeats 8000000
theorem compares_any {w : World} {v : Value} {x : Rat} {r : Int} (hv : RV w v x) (hr : r = 1 ∨ r = 2 ∨ r = 3) :
    Calls Tryz.prog 67 #[v, .int .i64 r] w fun e w' => e = .returned (.bool (cmpF r x)) ∧ Below w.heap.size w w' := by
 have hv0 := hv;obtain ⟨s1, b1, ao1, n1, c1, s2, b2, ao2, n2, c2, rfl, -⟩ := aR hv;have hal := (Below.refl w.heap.size w).alloc (Nat.le_refl _) (.cells #[.int .i64 s1, .bool b1, .slice ao1 n1 c1, .int .i64 s2, .bool b2, .slice ao2 n2 c2] 85);have hsg := ratSign_any _ x _ (hv0.far hal);have hz := ratIsZero_any _ x _ (hv0.far hal);have HB := hid hal;have HA := hid (heap_alloc_new w (.cells #[.int .i64 s1, .bool b1, .slice ao1 n1 c1, .int .i64 s2, .bool b2, .slice ao2 n2 c2] 85));have HSG := hid hsg;have HZ := hid hz;clear hv hv0 hal hsg hz;rcases hr with rfl | rfl | rfl
 · obtain ⟨z, hz⟩ : ∃ z, bc x.num = z := ⟨_, rfl⟩
   have HSG2 : Hid _ := HSG;rw [hz] at HSG2;have e : cmpF 1 x = decide (z ≤ 0) := by unfold cmpF; rw [if_pos rfl, hz]
   rw [e];clear HSG HZ hz e
   go_enter Tryz.func67, Tryz.ntmps67
   go_wp2_with fail
   refine HSG2.out.mono ?_;rintro e w1 ⟨rfl, hb⟩;replace HB := hid (HB.out.trans (hb.mono HB.out.size));clear hb HSG2 HA
   go_wp2
   go_ret
   exact ⟨rfl, HB.out⟩
 · obtain ⟨z, hz⟩ : ∃ z, bc x.num = z := ⟨_, rfl⟩
   have HSG2 : Hid _ := HSG;rw [hz] at HSG2;have e : cmpF 2 x = decide (z < 0) := by unfold cmpF; rw [if_neg (by decide), if_pos rfl, hz]
   rw [e];clear HSG HZ hz e
   go_enter Tryz.func67, Tryz.ntmps67
   go_wp2_with fail
   refine HSG2.out.mono ?_;rintro e w1 ⟨rfl, hb⟩;replace HB := hid (HB.out.trans (hb.mono HB.out.size));clear hb HSG2 HA
   go_wp2
   go_ret
   exact ⟨rfl, HB.out⟩
 · have e : cmpF 3 x = decide (x.num = 0) := by unfold cmpF; rw [if_neg (by decide), if_neg (by decide)]
   rw [e];clear HSG e;generalize decide (x.num = 0) = bz at *
   go_enter Tryz.func67, Tryz.ntmps67
   go_wp2_with fail
   refine HZ.out.mono ?_;rintro e w1 ⟨rfl, hb⟩;replace HB := hid (HB.out.trans (hb.mono HB.out.size));clear hb HZ HA
   go_wp2
   go_ret
   exact ⟨rfl, HB.out⟩
/-- sameConstraint at equal constraints -/
theorem sameC [Nms] {w : World} {r s : Int} {a1 a2 : Option Addr} {n1 c1 n2 c2 : Nat} {t1 t2 tm : ByteArray} {d1 d2 : Nat} {p : Rat} {cs cs' : List (List UInt8 × Rat)} (h : LV w (.agg #[.int .i64 s, .slice a1 n1 c1, .string t1]) s d1 p cs) (h' : LV w (.agg #[.int .i64 s, .slice a2 n2 c2, .string t2]) s d2 p cs') (hf : ∀ n, cof cs n = cof cs' n) :
    Calls Tryz.prog 27 #[.agg #[.int .i64 r, .int .i64 s, .slice a1 n1 c1, .string t1, .string tm], .agg #[.int .i64 r, .int .i64 s, .slice a2 n2 c2, .string t2, .string tm]] w fun e w' => e = .returned (.bool true) ∧ Below w.heap.size w w' := by
 have hsm : ∀ W, Below w.heap.size w W → Calls Tryz.prog 19 #[.agg #[.int .i64 s, .slice a1 n1 c1, .string t1], .agg #[.int .i64 s, .slice a2 n2 c2, .string t2]] W fun e w' => e = .returned (.bool true) ∧ Below W.heap.size W w' := by
  intro W hW;obtain ⟨b, g, off, cp, he, hr, -, hg, -⟩ := h.far hW;obtain ⟨b', g', off', cp', he', hr', -, hg', -⟩ := h'.far hW;rw [he, he'];obtain rfl : cs = cs' := can_ext ord_ltB _ _ hg.can hg'.can hf;exact same_ok W s cs (TX p) b g off cp b' g' off' cp' hr hr'
 have HSM := hid hsm;clear hsm h h' hf;obtain ⟨m1, m2, mb⟩ := newL2 w (.cells #[.int .i64 r, .int .i64 s, .slice a1 n1 c1, .string t1, .string tm] 39) (.cells #[.int .i64 r, .int .i64 s, .slice a2 n2 c2, .string t2, .string tm] 39);have HM1 := hid m1;have HM2 := hid m2;have HB := hid mb;clear m1 m2 mb
 go_enter Tryz.func27, Tryz.ntmps27
 go_wp2_with fail
 refine (HSM.out _ HB.out).mono ?_;rintro e w1 ⟨rfl, hb⟩;replace HB := hid (HB.out.trans (hb.mono HB.out.size));clear hb HM1 HM2
 go_wp2
 go_ret
 exact ⟨rfl, HB.out⟩
end
/-- the modulus as a text: none at a comparison -/
def TXo : Option Int → ByteArray
 | none => ⟨#[]⟩
 | some m => TX (m : Rat)
/-- relation, sort and modulus fit; the modulus has few digits -/
def ConM (r s : Int) (d : Nat) : Option Int → Prop
 | none => (s = 2 ∨ s = 3) ∧ (r = 1 ∨ r = 2 ∨ r = 3)
 | some m => s = 2 ∧ (r = 4 ∨ r = 5) ∧ 1 ≤ m ∧ DS d (m : Rat)
theorem con_mod {r s : Int} {tm : ByteArray} (h : ConOk r s tm) : ∃ M, tm = TXo M ∧ ConM r s 26 M := by
 obtain ⟨hs, ⟨h1, h2, rfl⟩ | ⟨h1, h2, rfl, m, hm1, hm2, rfl⟩⟩ := h
 · exact ⟨none, rfl, hs, by omega⟩
 · exact ⟨some m, rfl, rfl, by omega, hm1, (ds_small hm1 hm2).mono (by decide)⟩
end Go.Proofs.YteoklapcifonaaaGreatDoor
/- normalComparison for every relation and sort. -/
namespace Go.Proofs.YteoklapcifonaaaGreatDoor
open Go.RowKit Nmx
/-- the boxes of normalComparison -/
structure NG (w W : World) (T : Nat) (r s : Int) (a1 : Option Addr) (n1 c1 : Nat) (t1 : ByteArray) (x0 x1 x2 x3 x4 x5 : Value) (k : Rat) : Prop where
 a : W.heap[w.heap.size]? = some (.cells #[.int .i64 r, .int .i64 s, .slice a1 n1 c1, .string t1, .string ⟨#[]⟩] 39 (0, 0))
 r : W.heap[w.heap.size + 1]? = some (.cells #[.int .i64 0, .int .i64 0, .slice none 0 0, .string ⟨#[]⟩, .string ⟨#[]⟩] 39 (0, 0))
 t : W.heap[T]? = some (.cells #[x0, x1, x2, x3, x4, x5] 85 (0, 0))
 kv : RV W (.agg #[x0, x1, x2, x3, x4, x5]) k
 lt : w.heap.size + 1 < T
 bel : Below w.heap.size w W
theorem NG.far {w W W' : World} {T : Nat} {r s : Int} {a1 : Option Addr} {n1 c1 : Nat} {t1 : ByteArray} {x0 x1 x2 x3 x4 x5 : Value} {k : Rat} (h : NG w W T r s a1 n1 c1 t1 x0 x1 x2 x3 x4 x5 k) (hb : Below W.heap.size W W') : NG w W' T r s a1 n1 c1 t1 x0 x1 x2 x3 x4 x5 k :=
 ⟨(hb.block _ (ab h.a)).trans h.a, (hb.block _ (ab h.r)).trans h.r, (hb.block _ (ab h.t)).trans h.t, h.kv.far hb, h.lt, h.bel.trans (hb.mono h.bel.size)⟩
theorem NG.put {w W : World} {T : Nat} {r s : Int} {a1 : Option Addr} {n1 c1 : Nat} {t1 : ByteArray} {x0 x1 x2 x3 x4 x5 : Value} {k : Rat} (h : NG w W T r s a1 n1 c1 t1 x0 x1 x2 x3 x4 x5 k) {y0 y1 y2 y3 y4 y5 : Value} {q : Rat} (hq : RV W (.agg #[y0, y1, y2, y3, y4, y5]) q) : NG w ((((((W.setCell ⟨T, 0, none⟩ y0).setCell ⟨T, 1, none⟩ y1).setCell ⟨T, 2, none⟩ y2).setCell ⟨T, 3, none⟩ y3).setCell ⟨T, 4, none⟩ y4).setCell ⟨T, 5, none⟩ y5) T r s a1 n1 c1 t1 y0 y1 y2 y3 y4 y5 q := by
 have h1 := h.lt;have ho : ∀ g, g ≠ T → ((((((W.setCell ⟨T, 0, none⟩ y0).setCell ⟨T, 1, none⟩ y1).setCell ⟨T, 2, none⟩ y2).setCell ⟨T, 3, none⟩ y3).setCell ⟨T, 4, none⟩ y4).setCell ⟨T, 5, none⟩ y5).heap[g]? = W.heap[g]? := fun _ hg => set6_other hg _ _ _ _ _ _
 exact ⟨(ho _ (by omega)).trans h.a, (ho _ (by omega)).trans h.r, set6_heap h.t _ _ _ _ _ _, hq.but h.t (by decide) ho, h1, set6_below h.bel (by omega) _ _ _ _ _ _⟩
theorem NG.but {w W W' : World} {T : Nat} {r s : Int} {a1 : Option Addr} {n1 c1 : Nat} {t1 : ByteArray} {x0 x1 x2 x3 x4 x5 : Value} {k : Rat} (h : NG w W T r s a1 n1 c1 t1 x0 x1 x2 x3 x4 x5 k) {B : Nat} {cs : Array Value} {fr : Nat × Nat} (hB : W.heap[B]? = some (.cells cs 39 fr)) (hT : T < B) (ho : ∀ g, g ≠ B → W'.heap[g]? = W.heap[g]?) (hb : Below w.heap.size w W') : NG w W' T r s a1 n1 c1 t1 x0 x1 x2 x3 x4 x5 k := by
 have h1 := h.lt;exact ⟨(ho _ (by omega)).trans h.a, (ho _ (by omega)).trans h.r, (ho _ (by omega)).trans h.t, h.kv.but hB (by decide) ho, h1, hb⟩
/-- whether the first coefficient is below 0 -/
def neg0 : List (List UInt8 × Rat) → Bool
 | [] => false
 | x :: _ => decide (x.2.num < 0)
theorem sgnI_neg (z : Int) : bc z < 0 ↔ z < 0 := by
 unfold bc
 split
 · constructor <;> intro <;> omega
 · split <;> constructor <;> intro <;> omega
/-- the factor of the normal form -/
def kF (r : Int) (cs : List (List UInt8 × Rat)) : Rat := if r = 3 ∧ neg0 cs = true then -kP cs else kP cs
/-- a comparison is handed back -/
def GetsN [Nms] (r s : Int) (d : Nat) (c : Rat) (f : List UInt8 → Rat) (w : World) (e : Ending) (w' : World) : Prop := ∃ rs ao n cp tx, e = .returned (.agg #[.int .i64 r, .int .i64 s, .slice ao n cp, .string tx, .string ⟨#[]⟩]) ∧ LV w' (.agg #[.int .i64 s, .slice ao n cp, .string tx]) s d c rs ∧ (∀ n, cof rs n = f n) ∧ Below w.heap.size w w'
section
set_option maxRecDepth 100000
set_option maxHeartbeats 8000000
theorem normalCmp [Nms] {d : Nat} {w : World} {r s : Int} {a1 : Option Addr} {n1 c1 : Nat} {t1 : ByteArray} {p k : Rat} {cs : List (List UInt8 × Rat)} {post : Ending → World → Prop} (h : LVi w (.agg #[.int .i64 s, .slice a1 n1 c1, .string t1]) s d p cs) (hne : cs ≠ []) (hr : r = 1 ∨ r = 2 ∨ r = 3) (hs : s = 2 ∨ s = 3) {K : Nat} (dk0 : DS K (kP cs)) (hdK : 2 * d + 1 ≤ K) (hd : K ≤ 640) (hE : Env w) (hk : kF r cs = k)
    (hA : s = 3 → ∀ e w', GetsN r s (3 * K + 2) (k * p) (fun n => k * cof cs n) w e w' → post e w')
    (hB : s = 2 → r = 1 → ∀ e w', GetsN 1 s (3 * K + 2) ((ceI (k * p) : Int) : Rat) (fun n => k * cof cs n) w e w' → post e w')
    (hC : s = 2 → r = 2 → ∀ e w', GetsN 1 s (3 * K + 2) ((flI (k * p) + 1 : Int) : Rat) (fun n => k * cof cs n) w e w' → post e w')
    (hD : s = 2 → r = 3 → (k * p).den = 1 → ∀ e w', GetsN 3 s (3 * K + 2) (k * p) (fun n => k * cof cs n) w e w' → post e w')
    (hF : s = 2 → r = 3 → (k * p).den ≠ 1 → ∀ e w', GetsN 2 s (3 * K + 2) 0 (fun _ => 0) w e w' → post e w') :
    Calls Tryz.prog 68 #[.agg #[.int .i64 r, .int .i64 s, .slice a1 n1 c1, .string t1, .string ⟨#[]⟩]] w post := by
 have h0 := h;obtain ⟨a1', g1, o1, c1', he, hc1, hty, hg1, d1⟩ := h;injection he with he;injection he with he;injection he with _ he;injection he with he1 he;injection he with he2 he;injection he1 with e1 e2 e3;injection he2 with e4;subst e1 e3 e2 e4;clear he;have hcl := can_len8 hg1
 have dk : DS K k := by
  rw [← hk]; unfold kF
  split
  · exact dk0.neg
  · exact dk0
 obtain ⟨x0, tl, hcs⟩ : ∃ x tl, cs = x :: tl := by
  cases cs with
  | nil => exact absurd rfl hne
  | cons x tl => exact ⟨x, tl, rfl⟩
 have hlen : 0 < cs.length := List.length_pos_iff.2 hne;have had := hc1.ad (by have := hc1.le; omega)
 have hnu : w.cell? ⟨g1, o1 + 0 * 2 + 1, none⟩ = some (.string (TX x0.2)) := by
  have := hc1.nu 0 hlen
  simpa [hcs] using this
 have hkn : r = 3 → x0.2.num < 0 → k = -kP cs := fun h1 h2 => by rw [← hk]; unfold kF; rw [if_pos ⟨h1, by rw [hcs]; exact decide_eq_true h2⟩]
 have hkp : (r = 3 → ¬ x0.2.num < 0) → k = kP cs := fun h1 => by
  rw [← hk]; unfold kF; rw [if_neg];rintro ⟨h2, h3⟩;rw [hcs] at h3;exact h1 h2 (of_decide_eq_true h3)
 have hsg := fun W hW => numSignT (hg1.ds x0 (by rw [hcs]; exact List.mem_cons_self)) (by omega) W hW
 have hpr : ∀ W, Below w.heap.size w W → Calls Tryz.prog 124 #[.slice a1 cs.length c1] W (GetsQ (kP cs) W) := fun W hW => primitive_any W cs a1 g1 o1 c1 (hc1.far hW) hg1 hne (by omega) (hE.far hW)
 have hsc : ∀ W u, Below w.heap.size w W → RV W u k → Calls Tryz.prog 55 #[.agg #[.int .i64 s, .slice a1 cs.length c1, .string (TX p)], u] W (GetsL s (3 * K + 1) (k * p) (fun n => k * cof cs n) W) := fun W u hW hu => by
  exact scaleL ((h0.far hW).mono (e := K) (by omega)) hu dk (by omega) (hE.far hW)
 have dkp : DS (K + d) (k * p) := dk.mul d1;have hmk : ∀ W, Below w.heap.size w W → Calls Tryz.prog 56 #[.string (TX (k * p))] W (GetsQ (k * p) W) := fun W hW => mustT dkp (by omega) W (hE.far hW)
 have hce : ∀ W u, RV W u (k * p) → Calls Tryz.prog 126 #[u] W (aY (ceI (k * p)) W) := fun W u hu => ratCeil_any u _ W hu (ds_rs (k := 150) dkp (by omega)) (by omega)
 have hfl : ∀ W u, RV W u (k * p) → Calls Tryz.prog 127 #[u] W (aY (flI (k * p)) W) := fun W u hu => ratFloor_any u _ W hu (ds_rs (k := 150) dkp (by omega)) (by omega)
 have hii : ∀ W u, RV W u (k * p) → Calls Tryz.prog 64 #[u] W fun e w' => e = .returned (.bool (decide ((k * p).den = 1))) ∧ Below W.heap.size W w' := fun W u hu => bG u _ W hu
 have hst : ∀ W u z, Below w.heap.size w W → IV W u z → Calls Tryz.prog 122 #[u] W fun e w' => e = .returned (.string (TX ((z : Int) : Rat))) ∧ Below W.heap.size W w' := fun W u z hW hu => intString_any hu (hE.far hW)
 have hdc : DS (3 * K + 2) ((ceI (k * p) : Int) : Rat) := (ds_ce dkp).mono (by omega);have dfl : DS (K + d + 1) ((flI (k * p) : Int) : Rat) := dkp.fl;have hft : Fit (flI (k * p)) := fit_ten (k := K + d + 1) (by have := dfl.1; rw [Rat.num_intCast] at this; exact Nat.le_of_lt this) (by omega);have hf1 : Fit 1 := fit_ten (k := 1) (by decide) (by decide)
 have hdf : DS (3 * K + 2) ((flI (k * p) + 1 : Int) : Rat) := by
  rw [Rat.intCast_add];exact (dfl.add (DS.one (d := K + d + 1) (by omega))).mono (by omega)
 have hdk : DS (3 * K + 2) (k * p) := dkp.mono (by omega);obtain ⟨n1, hn1⟩ : ∃ n, cs.length = n := ⟨_, rfl⟩
 have hn0 : 0 < n1 := by omega
 rw [hn1] at hpr hsc ⊢;clear hn1 h0 dk dk0 dkp hcs hk hc1 hty hg1 hne hlen;obtain ⟨m1, m2, mb⟩ := newL2 w (.cells #[.int .i64 r, .int .i64 s, .slice a1 n1 c1, .string (TX p), .string ⟨#[]⟩] 39) (.cells #[.int .i64 0, .int .i64 0, .slice none 0 0, .string ⟨#[]⟩, .string ⟨#[]⟩] 39);have HM1 := hid m1;have HM2 := hid m2;have HMB := hid mb;have HPR := hid hpr;have HSC := hid hsc;have HMK := hid hmk;have HCE := hid hce;have HFL := hid hfl;have HII := hid hii;have HST := hid hst;have HDC := hid hdc;have HDF := hid hdf;have HFT := hid hft;have HF1 := hid hf1;have HDK := hid hdk;obtain ⟨zs, hzs⟩ : ∃ z, bc x0.2.num = z := ⟨_, rfl⟩
 have hzn := sgnI_neg x0.2.num;rw [hzs] at hsg hzn;have HSG := hid hsg;have HZN := hid hzn;have HNU := hid hnu;have HKN := hid hkn;have HKP := hid hkp;have HA := hid hA;have HBB := hid hB;have HC := hid hC;have HDD := hid hD;have HFF := hid hF;have HEV := hid hE;subst had;clear hzs hzn m1 m2 mb hpr hsc hmk hce hfl hii hst hdc hdf dfl hdk hft hf1 hsg hnu hkn hkp hA hB hC hD hF hE d1 hcl;generalize TX p = t1 at *;generalize TX x0.2 = t0 at *;obtain ⟨tk, htk⟩ : ∃ tk, TX (k * p) = tk := ⟨_, rfl⟩
 have HTK := hid htk;rw [htk] at HMK;clear htk
 go_enter Tryz.func68, Tryz.ntmps68
 go_wp2_with fail
 generalize (w.alloc (.cells #[.int .i64 r, .int .i64 s, .slice (some ⟨g1, o1, none⟩) n1 c1, .string t1, .string ⟨#[]⟩] 39)).alloc (.cells #[.int .i64 0, .int .i64 0, .slice none 0 0, .string ⟨#[]⟩, .string ⟨#[]⟩] 39) = w3 at *;refine (HPR.out _ HMB.out).mono ?_;rintro e w4 ⟨v4, rfl, hv, hb⟩;obtain ⟨s3, b3, ao3, n3, c3, s4, b4, ao4, n4, c4, rfl, i1, i2⟩ := aR hv;have hal : Below w4.heap.size w4 (w4.alloc (.cells #[.int .i64 s3, .bool b3, .slice ao3 n3 c3, .int .i64 s4, .bool b4, .slice ao4 n4 c4] 85)) := (Below.refl _ _).alloc (Nat.le_refl _) _;have hb2 := hb.trans (hal.mono hb.size);have hlt := ab ((hb.block _ (ab HM2.out)).trans HM2.out)
 have hNG : NG w (w4.alloc (.cells #[.int .i64 s3, .bool b3, .slice ao3 n3 c3, .int .i64 s4, .bool b4, .slice ao4 n4 c4] 85)) w4.heap.size r s (some ⟨g1, o1, none⟩) n1 c1 t1 (.int .i64 s3) (.bool b3) (.slice ao3 n3 c3) (.int .i64 s4) (.bool b4) (.slice ao4 n4 c4) (kP cs) :=
  ⟨(hb2.block _ (ab HM1.out)).trans HM1.out, (hb2.block _ (ab HM2.out)).trans HM2.out, heap_alloc_new _ _, hv.far hal, hlt, HMB.out.trans (hb2.mono HMB.out.size)⟩
 have HK := hid hNG;clear hv hb i1 i2 hal hb2 hlt hNG
 go_upto_region 2 with fail
 generalize w4.alloc (.cells #[.int .i64 s3, .bool b3, .slice ao3 n3 c3, .int .i64 s4, .bool b4, .slice ao4 n4 c4] 85) = w5 at *;generalize w4.heap.size = T at *;clear HM1 HM2 HMB HPR
 go_cut [21] (fun s21 wx => ∃ bn : Bool, s21 = .bool bn ∧ (bn = true → k = -kP cs) ∧ (bn = false → k = kP cs) ∧ NG w wx T r s (some ⟨g1, o1, none⟩) n1 c1 t1 (.int .i64 s3) (.bool b3) (.slice ao3 n3 c3) (.int .i64 s4) (.bool b4) (.slice ao4 n4 c4) (kP cs))
 case first =>
  have q0 := aa HK.out.a 0
  by_cases hr3 : r = 3
  · subst hr3;have q2 := aa HK.out.a 2
    have hn5 : w5.cell? ⟨g1, o1 + 1, none⟩ = some (.string t0) := by
     have := HNU.out;rw [Nat.zero_mul, Nat.add_zero] at this;exact (HK.out.bel.cell (World.block_lt_of_cell? _ _ this)).trans this
    have hn0' : (0 : Int) < (n1 : Int) := by omega
    go_wp2_with fail
    refine (HSG.out _ (HEV.out.far HK.out.bel)).mono ?_;rintro e w6 ⟨rfl, hb⟩;replace HK := hid (HK.out.far hb);clear hb q0 q2 hn5
    by_cases hz : zs < 0
    · have hkk := HKN.out trivial (HZN.out.1 hz);have HKK := hid hkk;clear hkk
      go_wp2_with fail
      go_meet
      exact ⟨_, rfl, fun _ => HKK.out, fun h => by first | (exfalso; simp at h; omega) | (simp at h; done), HK.out⟩
    · have hkk := HKP.out (fun _ => by have := HZN.out; omega);have HKK := hid hkk;clear hkk
      go_wp2_with fail
      go_meet
      exact ⟨_, rfl, fun h => by first | (exfalso; simp at h; omega) | (simp at h; done), fun _ => HKK.out, HK.out⟩
  · have hkk := HKP.out (fun h => absurd h hr3);have HKK := hid hkk;clear hkk
    go_wp2_with fail
    go_meet
    exact ⟨_, rfl, fun h => by first | (exfalso; simp at h; omega) | (simp at h; done), fun _ => HKK.out, HK.out⟩
 case rest =>
  obtain ⟨bn, rfl, hb1, hb2, hK⟩ := hcut;replace HK := hid hK;have HB1 := hid hb1;have HB2 := hid hb2;clear hK hb1 hb2 HKN HKP HZN HSG
  go_upto_if 21 with fail
  go_cut [] (fun wx => ∃ s7 b7 a7 n7 c7 s8 b8 a8 n8 c8, NG w wx T r s (some ⟨g1, o1, none⟩) n1 c1 t1 (.int .i64 s7) (.bool b7) (.slice a7 n7 c7) (.int .i64 s8) (.bool b8) (.slice a8 n8 c8) k)
  case first =>
   cases bn with
   | true =>
     have hkk := HB1.out rfl;have HKK := hid hkk;clear hkk;have z0 := aa HK.out.t 0;have z1 := aa HK.out.t 1;have z2 := aa HK.out.t 2;have z3 := aa HK.out.t 3;have z4 := aa HK.out.t 4;have z5 := aa HK.out.t 5
     go_wp2_with fail
     refine (ratNeg_any _ _ _ HK.out.kv).mono ?_;rintro e w7 ⟨v7, rfl, hv, hb⟩;replace HK := hid (HK.out.far hb);obtain ⟨s7, b7, a7, n7, c7, s8, b8, a8, n8, c8, rfl, -⟩ := aR hv;have HK7 := hid (HK.out.put hv);rw [← HKK.out] at HK7;clear hv hb z0 z1 z2 z3 z4 z5;have z0 := aa HK.out.t 0;have z1 := aa HK.out.t 1;have z2 := aa HK.out.t 2;have z3 := aa HK.out.t 3;have z4 := aa HK.out.t 4;have z5 := aa HK.out.t 5;have fr := fun i => ah HK.out.t i
     go_wp2_with fail
     go_meet
     exact ⟨_, _, _, _, _, _, _, _, _, _, HK7.out⟩
   | false =>
     have hkk := HB2.out rfl;rw [← hkk] at HK;have HK2 := HK;clear hkk
     go_wp2_with fail
     go_meet
     exact ⟨_, _, _, _, _, _, _, _, _, _, HK2.out⟩
  case rest =>
   obtain ⟨s3, b3, ao3, n3, c3, s4, b4, ao4, n4, c4, hK⟩ := hcut;replace HK := hid hK;clear hK HB1 HB2
   go_wp2_with fail
   refine aF [[], [0], [], [2], [], [2, 3, 4], [0, 1, 2, 3, 4, 5], [], [0, 1, 2, 3, 4, 5, 6, 7]] (fun W => NG w W T r s (some ⟨g1, o1, none⟩) n1 c1 t1 (.int .i64 s3) (.bool b3) (.slice ao3 n3 c3) (.int .i64 s4) (.bool b4) (.slice ao4 n4 c4) k) (fun _ => True) ?_
   iterate 5
    apply aM
    · intro x; go_simp; done
    · intro x W R hW hF hR;have p0 := aa hW.a 0;have p1 := aa hW.a 1;have p2 := aa hW.a 2;have p3 := aa hW.a 3;have z0 := aa hW.t 0;have z1 := aa hW.t 1;have z2 := aa hW.t 2;have z3 := aa hW.t 3;have z4 := aa hW.t 4;have z5 := aa hW.t 5;clear hF;unfold ag
      go_simp
      simp only [ac];exact hR _ (Below.refl _ _)
    simp only [Act.put, List.setIfInBounds_toArray, List.set_cons_zero, List.set_cons_succ]
   refine ba (fun v W => ∃ rs, LV W (v) s (3 * K + 1) (k * p) rs ∧ ∀ n, cof rs n = k * cof cs n) (fun _ _ _ h hb => let ⟨rs, h1, h2⟩ := h; ⟨rs, h1.far hb, h2⟩) ?_ ?_ ?_
   · intro x; go_simp; done
   · intro x W R hW hF hR;clear hF;unfold ag
     go_simp
     simp only [ac];refine (HSC.out W _ hW.bel hW.kv).mono ?_;rintro e w' ⟨rs, v, rfl, hl, hf, hb⟩;exact ⟨v, rfl, hR _ _ ⟨rs, hl, hf⟩ hb⟩
   simp only [Act.put, List.setIfInBounds_toArray, List.set_cons_zero, List.set_cons_succ, List.length_cons, List.length_nil, Nat.zero_add, Nat.reduceAdd];refine ba (fun v W => ∃ rs ao n c tx, v = .agg #[.int .i64 r, .int .i64 s, .slice ao n c, .string tx, .string ⟨#[]⟩] ∧ LV W (.agg #[.int .i64 s, .slice ao n c, .string tx]) s (3 * K + 1) (k * p) rs ∧ ∀ n, cof rs n = k * cof cs n) (fun _ _ _ h hb => let ⟨rs, ao, n, c, tx, h0, h1, h2⟩ := h; ⟨rs, ao, n, c, tx, h0, h1.far hb, h2⟩) ?_ ?_ ?_
   · intro x; go_simp; done
   · intro x W R hW hF hR;have hu := hF.1.2 rfl rfl rfl;simp only [AK.fact] at hu;obtain ⟨rs, hl, hf⟩ := hu;have HL := hid hl;have HF := hid hf;obtain ⟨ao, g, off, c, hx, -⟩ := hl;have HX := hid hx;simp only [hx];clear hF hx hf;unfold ag
     go_simp
     simp only [ac];exact hR _ _ ⟨rs, ao, _, c, _, rfl, by rw [← HX.out]; exact HL.out, HF.out⟩ (Below.refl _ _)
   simp only [Act.put, List.setIfInBounds_toArray, List.set_cons_zero, List.set_cons_succ, List.length_cons, List.length_nil, Nat.zero_add, Nat.reduceAdd];refine a_new (fun B W => T < B ∧ W.heap[B]? = some (.cells #[.int .i64 0, .int .i64 0, .slice none 0 0, .string ⟨#[]⟩, .string ⟨#[]⟩] 39 (0, 0))) (fun _ _ _ h hb => ⟨h.1, (hb.block _ (ab h.2)).trans h.2⟩) ?_ ?_ ?_
   · intro x; go_simp; done
   · intro x W R hW hF hR;clear hF;unfold ag
     go_simp
     simp only [ac];exact hR _ ⟨ab hW.t, heap_alloc_new _ _⟩ ((Below.refl _ _).alloc (Nat.le_refl _) _) (by simp)
   simp only [Act.put, List.setIfInBounds_toArray, List.set_cons_zero, List.set_cons_succ, List.length_cons, List.length_nil, Nat.zero_add, Nat.reduceAdd];refine a_wrt (fun x W => ∃ B rs ao n c tx, x 7 = .pointer (some ⟨B, 0, none⟩) ∧ T < B ∧ W.heap[B]? = some (.cells #[.int .i64 r, .int .i64 s, .slice ao n c, .string tx, .string ⟨#[]⟩] 39 (0, 0)) ∧ NG w W T r s (some ⟨g1, o1, none⟩) n1 c1 t1 (.int .i64 s3) (.bool b3) (.slice ao3 n3 c3) (.int .i64 s4) (.bool b4) (.slice ao4 n4 c4) k ∧ tx = tk ∧ LV W (.agg #[.int .i64 s, .slice ao n c, .string tx]) s (3 * K + 1) (k * p) rs ∧ ∀ n, cof rs n = k * cof cs n) (fun _ _ _ h hb => let ⟨B, rs, ao, n, c, tx, h1, h2, h3, h4, h0, h5, h6⟩ := h; ⟨B, rs, ao, n, c, tx, h1, h2, (hb.block _ (ab h3)).trans h3, h4.far hb, h0, h5.far hb, h6⟩) (fun x x' w hx hT => let ⟨B, rs, ao, n, c, tx, h1, h⟩ := hT; ⟨B, rs, ao, n, c, tx, (hx 7 (.inr (List.contains_iff_mem.1 rfl))).symm.trans h1, h⟩) ?_ ?_ ?_
   · intro x; go_simp; done
   · intro x W R hW hF hD hR;have hu := hF.2.1.2 rfl rfl rfl;have hb := hF.1.2 rfl rfl rfl;simp only [AK.fact] at hu hb;obtain ⟨B, hx7, hTB, hB⟩ := hb;obtain ⟨rs, ao, n, c, tx, hx6, hl, hf⟩ := hu
     have htx : tx = tk := by
      obtain ⟨_, _, _, _, he, -⟩ := hl;injection he with he;injection he with he;injection he with _ he;injection he with _ he;injection he with he _;injection he with he;rw [he]; exact HTK.out
     have HL := hid hl;have HF := hid hf;have HTX := hid htx;simp only [hx7, hx6];have e0 := aa hB 0;have e1 := aa hB 1;have e2 := aa hB 2;have e3 := aa hB 3;have e4 := aa hB 4;have fr := fun i => ah hB i
     clear hF hD hl hf htx;unfold ag
     go_simp
     simp only [ac];have hlt := hW.lt;have ho : ∀ g, g ≠ B → (((((W.setCell ⟨B, 0, none⟩ (.int .i64 r)).setCell ⟨B, 1, none⟩ (.int .i64 s)).setCell ⟨B, 2, none⟩ (.slice ao n c)).setCell ⟨B, 3, none⟩ (.string tx)).setCell ⟨B, 4, none⟩ (.string ⟨#[]⟩)).heap[g]? = W.heap[g]? := fun g hg => aN _ _ _ _ _ hg
     refine hR _ _ ⟨B, rs, ao, n, c, tx, (aJ (i := 8) (j := 7) _ _ (by decide)).trans hx7, hTB, az hB _ _ _ _ _, ⟨(ho _ (by omega)).trans hW.a, (ho _ (by omega)).trans hW.r, (ho _ (by omega)).trans hW.t, hW.kv.but hB (by decide) ho, hlt, ax hW.bel (by omega) _ _ _ _ _⟩, HTX.out, HL.out.but hB (by decide) ho, HF.out⟩ trivial (by simp [World.setCell])
   simp only [Act.put];refine a_nil (by kernel_rfl) (by kernel_rfl) (by kernel_rfl) (fun _ _ h hb => h.far hb) (fun _ _ _ _ => trivial) (fun _ _ => trivial) (HK.out.far (Below.refl _ _).drew) ?_;intro x W hE hW hF hD;clear hD;obtain ⟨B, rs, ao, n, c, tx, hx7, hTB, hB, hN, htx, hl, hf⟩ := hF.1.2 rfl;subst htx;simp only [hx7];have HB := hid hB;have HN := hid hN;have HL := hid hl;have HF := hid hf;clear hF hW hx7 hB hN hl hf;rcases hs with rfl | rfl
   · have p1 := aa HN.out.a 1;have e3 := aa HB.out 3
     go_wp2_with fail
     refine (HMK.out _ HN.out.bel).mono ?_;rintro e w6 ⟨v6, rfl, hv, hb⟩;replace HB := hid ((hb.block _ (ab HB.out)).trans HB.out);replace HN := hid (HN.out.far hb);replace HL := hid (HL.out.far hb);have HV6 := hid hv;obtain ⟨s5, b5, ao5, n5, c5, s6, b6, ao6, n6, c6, rfl, -⟩ := aR hv;clear hb hv p1 e3;have z0 := aa HN.out.t 0;have z1 := aa HN.out.t 1;have z2 := aa HN.out.t 2;have z3 := aa HN.out.t 3;have z4 := aa HN.out.t 4;have z5 := aa HN.out.t 5;have fr := fun i => ah HN.out.t i
     go_upto_region 8 with fail
     have hN7 := HN.out.put HV6.out;have ho7 : ∀ g, g ≠ T → ((((((w6.setCell ⟨T, 0, none⟩ (.int .i64 s5)).setCell ⟨T, 1, none⟩ (.bool b5)).setCell ⟨T, 2, none⟩ (.slice ao5 n5 c5)).setCell ⟨T, 3, none⟩ (.int .i64 s6)).setCell ⟨T, 4, none⟩ (.bool b6)).setCell ⟨T, 5, none⟩ (.slice ao6 n6 c6)).heap[g]? = w6.heap[g]? := fun _ hg => set6_other hg _ _ _ _ _ _
     have hTB6 : B ≠ T := by omega
     replace HB := hid ((ho7 B hTB6).trans HB.out);replace HL := hid (HL.out.but HN.out.t (by decide) ho7);replace HN := hid hN7;clear hN7 ho7 z0 z1 z2 z3 z4 z5 fr HV6;generalize (((((w6.setCell ⟨T, 0, none⟩ (.int .i64 s5)).setCell ⟨T, 1, none⟩ (.bool b5)).setCell ⟨T, 2, none⟩ (.slice ao5 n5 c5)).setCell ⟨T, 3, none⟩ (.int .i64 s6)).setCell ⟨T, 4, none⟩ (.bool b6)).setCell ⟨T, 5, none⟩ (.slice ao6 n6 c6) = w7 at *;have p0 := aa HN.out.a 0;have z0 := aa HN.out.t 0;have z1 := aa HN.out.t 1;have z2 := aa HN.out.t 2;have z3 := aa HN.out.t 3;have z4 := aa HN.out.t 4;have z5 := aa HN.out.t 5;rcases hr with rfl | rfl | rfl
     · go_wp2_with fail
       refine (HCE.out _ _ HN.out.kv).mono ?_;rintro e w8 ⟨v8, rfl, hv, hb⟩;replace HN := hid (HN.out.far hb);replace HB := hid ((hb.block _ (ab HB.out)).trans HB.out);replace HL := hid (HL.out.far hb);have HV8 := hid hv;clear hb hv p0 z0 z1 z2 z3 z4 z5
       go_wp2_with fail
       obtain ⟨tz, htz⟩ : ∃ tz, TX ((ceI (k * p) : Int) : Rat) = tz := ⟨_, rfl⟩
       have hst2 := HST.out w8 v8 _ HN.out.bel HV8.out;rw [htz] at hst2;have HTZ := hid htz;clear htz;refine hst2.mono ?_;rintro e w9 ⟨rfl, hb⟩;replace HN := hid (HN.out.far hb);replace HB := hid ((hb.block _ (ab HB.out)).trans HB.out);replace HL := hid (HL.out.far hb);clear hb hst2;have fr3 := fun i => ah HB.out i
       have e0 := aa HB.out 0;have e1 := aa HB.out 1;have e2 := aa HB.out 2;have e3 := aa HB.out 3;have e4 := aa HB.out 4
       go_upto_region 15 with fail
       have ho : ∀ g, g ≠ B → (w9.setCell ⟨B, 3, none⟩ (.string tz)).heap[g]? = w9.heap[g]? := fun g hg => Below.heap_setCell _ _ _ _ hg
       have hlt9 := HN.out.lt;have hbl := HN.out.bel.setCell (p := ⟨B, 3, none⟩) (show w.heap.size ≤ B by omega) (.string tz);have hB10 := av HB.out 3 (.string tz)
       simp at hB10
       replace HL := hid (HL.out.but HB.out (by decide) ho);replace HN := hid (HN.out.but HB.out hTB ho hbl);replace HB := hid hB10;clear ho hB10 hbl hlt9 fr3 e0 e1 e2 e3 e4;generalize w9.setCell ⟨B, 3, none⟩ (.string tz) = w10 at *;have e0 := aa HB.out 0;have e1 := aa HB.out 1;have e2 := aa HB.out 2;have e3 := aa HB.out 3;have e4 := aa HB.out 4;have r0 := aa HN.out.r 0;have r1 := aa HN.out.r 1;have r2 := aa HN.out.r 2;have r3 := aa HN.out.r 3;have r4 := aa HN.out.r 4;have fr := fun i => ah HN.out.r i
       go_wp2_with fail
       refine end_con rfl rfl rfl (az HN.out.r _ _ _ _ _) ?_;refine HBB.out trivial trivial _ _ ⟨rs, ao, n, c, tz, rfl, ?_, HF.out, ax HN.out.bel (by omega) _ _ _ _ _⟩;have hlv := HL.out.const HDC.out (by omega);rw [HTZ.out] at hlv;exact hlv.but HN.out.r (by decide) (fun g hg => aN _ _ _ _ _ hg)
     · clear z0 z1 z2 z3 z4 z5;have fr3 := fun i => ah HB.out i
       have e0 := aa HB.out 0;have e1 := aa HB.out 1;have e2 := aa HB.out 2;have e3 := aa HB.out 3;have e4 := aa HB.out 4
       go_upto_region 12 with fail
       have ho : ∀ g, g ≠ B → (w7.setCell ⟨B, 0, none⟩ (.int .i64 1)).heap[g]? = w7.heap[g]? := fun g hg => Below.heap_setCell _ _ _ _ hg
       have hlt9 := HN.out.lt;have hbl := HN.out.bel.setCell (p := ⟨B, 0, none⟩) (show w.heap.size ≤ B by omega) (.int .i64 1);have hB10 := av HB.out 0 (.int .i64 1)
       simp at hB10
       replace HL := hid (HL.out.but HB.out (by decide) ho);replace HN := hid (HN.out.but HB.out hTB ho hbl);replace HB := hid hB10;clear ho hB10 hbl hlt9 fr3 e0 e1 e2 e3 e4;generalize w7.setCell ⟨B, 0, none⟩ (.int .i64 1) = w8 at *;clear p0;have z0 := aa HN.out.t 0;have z1 := aa HN.out.t 1;have z2 := aa HN.out.t 2;have z3 := aa HN.out.t 3;have z4 := aa HN.out.t 4;have z5 := aa HN.out.t 5
       go_wp2_with fail
       refine (HFL.out _ _ HN.out.kv).mono ?_;rintro e w9 ⟨v9, rfl, hv, hb⟩;replace HN := hid (HN.out.far hb);replace HB := hid ((hb.block _ (ab HB.out)).trans HB.out);replace HL := hid (HL.out.far hb);have HV9 := hid hv;clear hb hv z0 z1 z2 z3 z4 z5
       go_wp2_with fail
       refine (fromInt64_any 1 _ (by decide) (by decide)).mono ?_;rintro e w10 ⟨v10, rfl, hv, hb⟩;replace HN := hid (HN.out.far hb);replace HB := hid ((hb.block _ (ab HB.out)).trans HB.out);replace HL := hid (HL.out.far hb);replace HV9 := hid (HV9.out.far hb);have HV10 := hid hv;clear hb hv
       go_wp2_with fail
       refine (add_any _ _ _ _ _ HV9.out HV10.out HFT.out HF1.out).mono ?_;rintro e w11 ⟨v11, rfl, hv, hb⟩;replace HN := hid (HN.out.far hb);replace HB := hid ((hb.block _ (ab HB.out)).trans HB.out);replace HL := hid (HL.out.far hb);have HV11 := hid hv;clear hb hv HV9 HV10
       go_wp2_with fail
       obtain ⟨tz, htz⟩ : ∃ tz, TX ((flI (k * p) + 1 : Int) : Rat) = tz := ⟨_, rfl⟩
       have hst2 := HST.out w11 v11 _ HN.out.bel HV11.out;rw [htz] at hst2;have HTZ := hid htz;clear htz;refine hst2.mono ?_;rintro e w12 ⟨rfl, hb⟩;replace HN := hid (HN.out.far hb);replace HB := hid ((hb.block _ (ab HB.out)).trans HB.out);replace HL := hid (HL.out.far hb);clear hb hst2;have fr3 := fun i => ah HB.out i
       have e0 := aa HB.out 0;have e1 := aa HB.out 1;have e2 := aa HB.out 2;have e3 := aa HB.out 3;have e4 := aa HB.out 4
       go_upto_region 15 with fail
       have ho : ∀ g, g ≠ B → (w12.setCell ⟨B, 3, none⟩ (.string tz)).heap[g]? = w12.heap[g]? := fun g hg => Below.heap_setCell _ _ _ _ hg
       have hlt9 := HN.out.lt;have hbl := HN.out.bel.setCell (p := ⟨B, 3, none⟩) (show w.heap.size ≤ B by omega) (.string tz);have hB10 := av HB.out 3 (.string tz)
       simp at hB10
       replace HL := hid (HL.out.but HB.out (by decide) ho);replace HN := hid (HN.out.but HB.out hTB ho hbl);replace HB := hid hB10;clear ho hB10 hbl hlt9 fr3 e0 e1 e2 e3 e4;generalize w12.setCell ⟨B, 3, none⟩ (.string tz) = w13 at *;have e0 := aa HB.out 0;have e1 := aa HB.out 1;have e2 := aa HB.out 2;have e3 := aa HB.out 3;have e4 := aa HB.out 4;have r0 := aa HN.out.r 0;have r1 := aa HN.out.r 1;have r2 := aa HN.out.r 2;have r3 := aa HN.out.r 3;have r4 := aa HN.out.r 4;have fr := fun i => ah HN.out.r i
       go_wp2_with fail
       refine end_con rfl rfl rfl (az HN.out.r _ _ _ _ _) ?_;refine HC.out trivial trivial _ _ ⟨rs, ao, n, c, tz, rfl, ?_, HF.out, ax HN.out.bel (by omega) _ _ _ _ _⟩;have hlv := HL.out.const HDF.out (by omega);rw [HTZ.out] at hlv;exact hlv.but HN.out.r (by decide) (fun g hg => aN _ _ _ _ _ hg)
     · go_wp2_with fail
       refine (HII.out _ _ HN.out.kv).mono ?_;rintro e w8 ⟨rfl, hb⟩;replace HN := hid (HN.out.far hb);replace HB := hid ((hb.block _ (ab HB.out)).trans HB.out);replace HL := hid (HL.out.far hb);clear hb p0 z0 z1 z2 z3 z4 z5
       by_cases hden : (k * p).den = 1
       · have HDN := hid hden;rw [decide_eq_true hden];clear hden;have e0 := aa HB.out 0;have e1 := aa HB.out 1;have e2 := aa HB.out 2;have e3 := aa HB.out 3;have e4 := aa HB.out 4;have r0 := aa HN.out.r 0;have r1 := aa HN.out.r 1;have r2 := aa HN.out.r 2;have r3 := aa HN.out.r 3;have r4 := aa HN.out.r 4;have fr := fun i => ah HN.out.r i
         go_wp2_with fail
         refine end_con rfl rfl rfl (az HN.out.r _ _ _ _ _) ?_;exact HDD.out trivial trivial HDN.out _ _ ⟨rs, ao, n, c, tx, rfl, (HL.out.mono (by omega)).but HN.out.r (by decide) (fun g hg => aN _ _ _ _ _ hg), HF.out, ax HN.out.bel (by omega) _ _ _ _ _⟩
       · have HDN := hid hden;rw [decide_eq_false hden];clear hden
         go_wp2_with fail
         refine (constant_any false 2 _).mono ?_;rintro e w9 ⟨rfl, hb⟩;replace HN := hid (HN.out.far hb);replace HB := hid ((hb.block _ (ab HB.out)).trans HB.out);replace HL := hid (HL.out.far hb);clear hb;have r0 := aa HN.out.r 0;have r1 := aa HN.out.r 1;have r2 := aa HN.out.r 2;have r3 := aa HN.out.r 3;have r4 := aa HN.out.r 4;have fr := fun i => ah HN.out.r i
         go_wp2_with fail
         refine end_con rfl rfl rfl (az HN.out.r _ _ _ _ _) ?_;exact HFF.out trivial trivial HDN.out _ _ ⟨[], none, 0, 0, _, rfl, (nilLV _ 2 _), fun _ => rfl, ax HN.out.bel (by omega) _ _ _ _ _⟩
   · have p1 := aa HN.out.a 1;have e0 := aa HB.out 0;have e1 := aa HB.out 1;have e2 := aa HB.out 2;have e3 := aa HB.out 3;have e4 := aa HB.out 4;have r0 := aa HN.out.r 0;have r1 := aa HN.out.r 1;have r2 := aa HN.out.r 2;have r3 := aa HN.out.r 3;have r4 := aa HN.out.r 4;have fr := fun i => ah HN.out.r i
     go_wp2_with fail
     refine end_con rfl rfl rfl (az HN.out.r _ _ _ _ _) ?_;exact HA.out trivial _ _ ⟨rs, ao, n, c, tx, rfl, (HL.out.mono (by omega)).but HN.out.r (by decide) (fun g hg => aN _ _ _ _ _ hg), HF.out, ax HN.out.bel (by omega) _ _ _ _ _⟩
end
end Go.Proofs.YteoklapcifonaaaGreatDoor
/- Normal at comparisons. -/
namespace Go.Proofs.YteoklapcifonaaaGreatDoor
open Go.RowKit Nmx
/-- the normal form of a comparison: relation, constant, coefficients -/
def NF (r s : Int) (p : Rat) (cs : List (List UInt8 × Rat)) (r' : Int) (c' : Rat) (f' : List UInt8 → Rat) : Prop :=
 (cs = [] ∧ r' = (if cmpF r p then 1 else 2) ∧ c' = 0 ∧ f' = fun _ => 0) ∨
 (cs ≠ [] ∧ ((s = 3 ∧ r' = r ∧ c' = kF r cs * p ∧ f' = fun n => kF r cs * cof cs n) ∨
   (s = 2 ∧ r = 1 ∧ r' = 1 ∧ c' = ((ceI (kF r cs * p) : Int) : Rat) ∧ f' = fun n => kF r cs * cof cs n) ∨
   (s = 2 ∧ r = 2 ∧ r' = 1 ∧ c' = ((flI (kF r cs * p) + 1 : Int) : Rat) ∧ f' = fun n => kF r cs * cof cs n) ∨
   (s = 2 ∧ r = 3 ∧ (kF r cs * p).den = 1 ∧ r' = 3 ∧ c' = kF r cs * p ∧ f' = fun n => kF r cs * cof cs n) ∨
   (s = 2 ∧ r = 3 ∧ (kF r cs * p).den ≠ 1 ∧ r' = 2 ∧ c' = 0 ∧ f' = fun _ => 0)))
/-- .. and no error -/
def GetsNE [Nms] (r s : Int) (d : Nat) (c : Rat) (f : List UInt8 → Rat) (w : World) (e : Ending) (w' : World) : Prop := ∃ rs ao n cp tx, e = .returned (.tuple #[.agg #[.int .i64 r, .int .i64 s, .slice ao n cp, .string tx, .string ⟨#[]⟩], .int .i64 0]) ∧ LV w' (.agg #[.int .i64 s, .slice ao n cp, .string tx]) s d c rs ∧ (∀ n, cof rs n = f n) ∧ Below w.heap.size w w'
section
set_option maxRecDepth 100000
set_option maxHeartbeats 8000000
theorem normalV_ne [Nms] {d : Nat} {w : World} {r s : Int} {a1 : Option Addr} {n1 c1 : Nat} {t1 : ByteArray} {p : Rat} {cs : List (List UInt8 × Rat)} (h : LVi w (.agg #[.int .i64 s, .slice a1 n1 c1, .string t1]) s d p cs) (hne : cs ≠ []) (hr : r = 1 ∨ r = 2 ∨ r = 3) (hs : s = 2 ∨ s = 3) {K : Nat} (hK : cs ≠ [] → DS K (kP cs)) (hdK : 2 * d + 1 ≤ K) (hd : K ≤ 640) (hvl : ∀ W, Below w.heap.size w W → Calls Tryz.prog 31 #[.agg #[.int .i64 r, .int .i64 s, .slice a1 n1 c1, .string t1, .string ⟨#[]⟩]] W fun e w' => e = .returned (.bool true) ∧ Below W.heap.size W w') (hE : Env w) :
    Calls Tryz.prog 26 #[.agg #[.int .i64 r, .int .i64 s, .slice a1 n1 c1, .string t1, .string ⟨#[]⟩]] w fun e w' => ∃ r' c' f', NF r s p cs r' c' f' ∧ GetsNE r' s (3 * K + 2) c' f' w e w' := by
 have hnc : ∀ W, Below w.heap.size w W → Calls Tryz.prog 68 #[.agg #[.int .i64 r, .int .i64 s, .slice a1 n1 c1, .string t1, .string ⟨#[]⟩]] W fun e w' => ∃ r' c' f', NF r s p cs r' c' f' ∧ GetsN r' s (3 * K + 2) c' f' W e w' := fun W hW =>
  normalCmp (h.far hW) hne hr hs (hK hne) hdK hd (hE.far hW) rfl
   (fun h1 e w' hg => ⟨_, _, _, .inr ⟨hne, .inl ⟨h1, rfl, rfl, rfl⟩⟩, hg⟩)
   (fun h1 h2 e w' hg => ⟨_, _, _, .inr ⟨hne, .inr (.inl ⟨h1, h2, rfl, rfl, rfl⟩)⟩, hg⟩)
   (fun h1 h2 e w' hg => ⟨_, _, _, .inr ⟨hne, .inr (.inr (.inl ⟨h1, h2, rfl, rfl, rfl⟩))⟩, hg⟩)
   (fun h1 h2 h3 e w' hg => ⟨_, _, _, .inr ⟨hne, .inr (.inr (.inr (.inl ⟨h1, h2, h3, rfl, rfl, rfl⟩)))⟩, hg⟩)
   (fun h1 h2 h3 e w' hg => ⟨_, _, _, .inr ⟨hne, .inr (.inr (.inr (.inr ⟨h1, h2, h3, rfl, rfl, rfl⟩)))⟩, hg⟩)
 have hn1 : 0 < n1 := by rw [h.length.1]; exact List.length_pos_iff.2 hne
 have HVL := hid hvl;have HNC := hid hnc;obtain ⟨m1, m2, mb⟩ := newL2 w (.cells #[.int .i64 r, .int .i64 s, .slice a1 n1 c1, .string t1, .string ⟨#[]⟩] 39) (.cells #[.int .i64 0, .int .i64 0, .slice none 0 0, .string ⟨#[]⟩, .string ⟨#[]⟩] 39);have HM1 := hid m1;have HM2 := hid m2;have HMB := hid mb;have hnn : ((n1 : Int) == 0) = false := by rw [beq_eq_false_iff_ne]; omega
 have hnd : decide ((n1 : Int) = 0) = false := decide_eq_false (by omega);clear hvl hnc m1 m2 mb h hE hn1 hs;have q4 : (r == 4) = false := by rw [beq_eq_false_iff_ne]; omega
 have q5 : (r == 5) = false := by rw [beq_eq_false_iff_ne]; omega
 have d4 : decide (r = 4) = false := decide_eq_false (by omega);have d5 : decide (r = 5) = false := decide_eq_false (by omega)
 go_enter Tryz.func26, Tryz.ntmps26
 go_wp2_with fail
 generalize (w.alloc (.cells #[.int .i64 r, .int .i64 s, .slice a1 n1 c1, .string t1, .string ⟨#[]⟩] 39)).alloc (.cells #[.int .i64 0, .int .i64 0, .slice none 0 0, .string ⟨#[]⟩, .string ⟨#[]⟩] 39) = w3 at *;refine (HVL.out _ HMB.out).mono ?_;rintro e w4 ⟨rfl, hb⟩;have HA4 := hid ((hb.block _ (ab HM1.out)).trans HM1.out);have HR4 := hid ((hb.block _ (ab HM2.out)).trans HM2.out);have HB4 := hid (HMB.out.trans (hb.mono HMB.out.size));clear hb;have p0 := aa HA4.out 0;have p1 := aa HA4.out 1;have p2 := aa HA4.out 2;have p3 := aa HA4.out 3;have p4 := aa HA4.out 4
 go_wp2_with fail
 refine (HNC.out _ HB4.out).mono ?_;rintro e w5 ⟨r', c', f', hnf, rs, ao, n, cp, tx, rfl, hl, hf, hb⟩;have HR5 := hid ((hb.block _ (ab HR4.out)).trans HR4.out);have HB5 := hid (HB4.out.trans (hb.mono HB4.out.size));have HL := hid hl;have HF := hid hf;have HNF := hid hnf;clear hb hl hf hnf p0 p1 p2 p3 p4;have r0 := aa HR5.out 0;have r1 := aa HR5.out 1;have r2 := aa HR5.out 2;have r3 := aa HR5.out 3;have r4 := aa HR5.out 4;have fr := fun i => ah HR5.out i
 go_wp2_with fail
 exact end_con2 rfl rfl rfl rfl (az HR5.out _ _ _ _ _) ⟨r', c', f', HNF.out, rs, ao, n, cp, tx, rfl, HL.out.but HR5.out (by decide) (fun g hg => aN _ _ _ _ _ hg), HF.out, ax HB5.out (by omega) _ _ _ _ _⟩
/-- the boxes of Normal -/
structure NBX (w W : World) (r s : Int) (a1 : Option Addr) (n1 c1 : Nat) (t1 : ByteArray) : Prop where
 a : W.heap[w.heap.size]? = some (.cells #[.int .i64 r, .int .i64 s, .slice a1 n1 c1, .string t1, .string ⟨#[]⟩] 39 (0, 0))
 r : W.heap[w.heap.size + 1]? = some (.cells #[.int .i64 0, .int .i64 0, .slice none 0 0, .string ⟨#[]⟩, .string ⟨#[]⟩] 39 (0, 0))
 bel : Below w.heap.size w W
theorem NBX.far {w W W' : World} {r s : Int} {a1 : Option Addr} {n1 c1 : Nat} {t1 : ByteArray} (h : NBX w W r s a1 n1 c1 t1) (hb : Below W.heap.size W W') : NBX w W' r s a1 n1 c1 t1 :=
 ⟨(hb.block _ (ab h.a)).trans h.a, (hb.block _ (ab h.r)).trans h.r, h.bel.trans (hb.mono h.bel.size)⟩
theorem normalV_nil [Nms] {d : Nat} {w : World} {r s : Int} {a1 : Option Addr} {n1 c1 : Nat} {t1 : ByteArray} {p : Rat} (h : LVi w (.agg #[.int .i64 s, .slice a1 n1 c1, .string t1]) s d p []) (hr : r = 1 ∨ r = 2 ∨ r = 3) (_hs : s = 2 ∨ s = 3) {K : Nat} (hdK : 2 * d + 1 ≤ K) (hd : K ≤ 640) (hvl : ∀ W, Below w.heap.size w W → Calls Tryz.prog 31 #[.agg #[.int .i64 r, .int .i64 s, .slice a1 n1 c1, .string t1, .string ⟨#[]⟩]] W fun e w' => e = .returned (.bool true) ∧ Below W.heap.size W w') (hE : Env w) :
    Calls Tryz.prog 26 #[.agg #[.int .i64 r, .int .i64 s, .slice a1 n1 c1, .string t1, .string ⟨#[]⟩]] w fun e w' => ∃ r' c' f', NF r s p [] r' c' f' ∧ GetsNE r' s (3 * K + 2) c' f' w e w' := by
 obtain ⟨hn1, ht1, dp⟩ := h.length;have hmk : ∀ W, Below w.heap.size w W → Calls Tryz.prog 56 #[.string (TX p)] W (GetsQ p W) := fun W hW => mustT dp (by omega) W (hE.far hW)
 have hcm : ∀ W v, RV W v p → Calls Tryz.prog 67 #[v, .int .i64 r] W fun e w' => e = .returned (.bool (cmpF r p)) ∧ Below W.heap.size W w' := fun W v hv => compares_any hv hr
 obtain ⟨rr, hrr⟩ : ∃ rr : Int, (if cmpF r p then 1 else 2) = rr := ⟨_, rfl⟩
 have hcn := constant_any (cmpF r p) s;rw [hrr] at hcn;have HNF : Hid (NF r s p [] rr 0 fun _ => 0) := hid (.inl ⟨rfl, hrr.symm, rfl, rfl⟩);generalize cmpF r p = bn at *;have hn0 : n1 = 0 := hn1;rw [← ht1] at hmk;subst hn0;have HVL := hid hvl;have HMK := hid hmk;have HCM := hid hcm;have HCN := hid hcn;obtain ⟨m1, m2, mb⟩ := newL2 w (.cells #[.int .i64 r, .int .i64 s, .slice a1 0 c1, .string t1, .string ⟨#[]⟩] 39) (.cells #[.int .i64 0, .int .i64 0, .slice none 0 0, .string ⟨#[]⟩, .string ⟨#[]⟩] 39);have HK := hid (⟨m1, m2, mb⟩ : NBX w _ r s a1 0 c1 t1);clear hvl hmk hcm hcn m1 m2 mb h hE hn1 dp ht1 hrr;have q4 : (r == 4) = false := by rw [beq_eq_false_iff_ne]; omega
 have q5 : (r == 5) = false := by rw [beq_eq_false_iff_ne]; omega
 have d4 : decide (r = 4) = false := decide_eq_false (by omega);have d5 : decide (r = 5) = false := decide_eq_false (by omega)
 go_enter Tryz.func26, Tryz.ntmps26
 go_wp2_with fail
 generalize (w.alloc (.cells #[.int .i64 r, .int .i64 s, .slice a1 0 c1, .string t1, .string ⟨#[]⟩] 39)).alloc (.cells #[.int .i64 0, .int .i64 0, .slice none 0 0, .string ⟨#[]⟩, .string ⟨#[]⟩] 39) = w3 at *;refine (HVL.out _ HK.out.bel).mono ?_;rintro e w4 ⟨rfl, hb⟩;replace HK := hid (HK.out.far hb);clear hb;have p0 := aa HK.out.a 0;have p2 := aa HK.out.a 2
 go_wp2_with fail
 clear p0 p2;refine aF [[], [0], [0, 1], [0, 1, 2], [], [4], [0, 1, 2, 3, 4, 5], [], [7], [7, 8], [0, 1, 2, 3, 4, 5, 6, 7, 8, 9], [0, 1, 2, 3, 4, 5, 6, 7, 8, 9, 10], [0, 1, 2, 3, 4, 5, 6, 7, 8, 9, 10, 11]] (fun W => NBX w W r s a1 0 c1 t1) (fun _ => True) ?_
 iterate 3
  apply aM
  · intro x; go_simp; done
  · intro x W R hW hF hR;have p0 := aa hW.a 0;have p1 := aa hW.a 1;have p3 := aa hW.a 3;clear hF;unfold ag
    go_simp
    simp only [ac];exact hR _ (Below.refl _ _)
  simp only [Act.put, List.setIfInBounds_toArray, List.set_cons_zero, List.set_cons_succ]
 refine ba (fun v W => RV W v p) (fun _ _ _ h hb => h.far hb) ?_ ?_ ?_
 · intro x; go_simp; done
 · intro x W R hW hF hR;clear hF;unfold ag
   go_simp
   simp only [ac];refine (HMK.out W hW.bel).mono ?_;rintro e w' ⟨v, rfl, hv, hb⟩;exact ⟨v, rfl, hR _ _ hv hb⟩
 simp only [Act.put, List.setIfInBounds_toArray, List.set_cons_zero, List.set_cons_succ, List.length_cons, List.length_nil, Nat.zero_add, Nat.reduceAdd]
 iterate 2
  apply aM
  · intro x; go_simp; done
  · intro x W R hW hF hR;have p0 := aa hW.a 0;have p1 := aa hW.a 1;have p3 := aa hW.a 3;clear hF;unfold ag
    go_simp
    simp only [ac];exact hR _ (Below.refl _ _)
  simp only [Act.put, List.setIfInBounds_toArray, List.set_cons_zero, List.set_cons_succ]
 apply aM
 · intro x; go_simp; done
 · intro x W R hW hF hR;have hu := hF.2.2.1.2 rfl rfl rfl;simp only [AK.fact] at hu;clear hF;unfold ag
   go_simp
   simp only [ac];refine (HCM.out W _ hu).mono ?_;rintro e w' ⟨rfl, hb⟩;exact ⟨_, rfl, hR _ hb⟩
 simp only [Act.put, List.setIfInBounds_toArray, List.set_cons_zero, List.set_cons_succ]
 iterate 3
  apply aM
  · intro x; go_simp; done
  · intro x W R hW hF hR;have p0 := aa hW.a 0;have p1 := aa hW.a 1;have p3 := aa hW.a 3;clear hF;unfold ag
    go_simp
    simp only [ac];exact hR _ (Below.refl _ _)
  simp only [Act.put, List.setIfInBounds_toArray, List.set_cons_zero, List.set_cons_succ]
 apply aM
 · intro x; go_simp; done
 · intro x W R hW hF hR;clear hF;unfold ag
   go_simp
   simp only [ac];refine (HCN.out W).mono ?_;rintro e w' ⟨rfl, hb⟩;exact ⟨_, rfl, hR _ hb⟩
 simp only [Act.put, List.setIfInBounds_toArray, List.set_cons_zero, List.set_cons_succ];refine a_wrt (fun _ W => W.heap[w.heap.size + 1]? = some (.cells #[.int .i64 rr, .int .i64 s, .slice none 0 0, .string ⟨#[48]⟩, .string ⟨#[]⟩] 39 (0, 0)) ∧ Below w.heap.size w W) (fun _ _ _ h hb => ⟨(hb.block _ (ab h.1)).trans h.1, h.2.trans (hb.mono h.2.size)⟩) (fun _ _ _ _ h => h) ?_ ?_ ?_
 · intro x; go_simp; done
 · intro x W R hW hF hD hR;have z0 := aa hW.r 0;have z1 := aa hW.r 1;have z2 := aa hW.r 2;have z3 := aa hW.r 3;have z4 := aa hW.r 4;have fr := fun i => ah hW.r i
   clear hF hD;unfold ag
   go_simp
   simp only [ac];refine hR _ _ ⟨az hW.r _ _ _ _ _, ax hW.bel (by omega) _ _ _ _ _⟩ trivial (by simp [World.setCell])
 simp only [Act.put];apply a_late
 · intro x; go_simp; done
 · intro x W R hW hF hR;clear hF hW;unfold ag
   go_simp
   simp only [ac];exact hR _ (Below.refl _ _)
 simp only [Act.put, List.setIfInBounds_toArray, List.set_cons_zero, List.set_cons_succ];refine a_nil (by kernel_rfl) (by kernel_rfl) (by kernel_rfl) (fun _ _ h hb => h.far hb) (fun _ _ _ _ => trivial) (fun _ _ => trivial) (HK.out.far (Below.refl _ _).drew) ?_;intro x W hE hW hF hD;clear hD;obtain ⟨h1, h2⟩ := hF.2.1.2 rfl;have H1 := hid h1;have H2 := hid h2;clear hF hW h1 h2
 go_wp2_with fail
 exact end_con2 rfl rfl rfl rfl H1.out ⟨rr, 0, _, HNF.out, [], none, 0, 0, _, rfl, nilLV _ s _, fun _ => rfl, H2.out⟩
/-- Normal at any comparison -/
theorem normalV [Nms] {d : Nat} {w : World} {r s : Int} {a1 : Option Addr} {n1 c1 : Nat} {t1 : ByteArray} {p : Rat} {cs : List (List UInt8 × Rat)} (h : LVi w (.agg #[.int .i64 s, .slice a1 n1 c1, .string t1]) s d p cs) (hr : r = 1 ∨ r = 2 ∨ r = 3) (hs : s = 2 ∨ s = 3) {K : Nat} (hK : cs ≠ [] → DS K (kP cs)) (hdK : 2 * d + 1 ≤ K) (hd : K ≤ 640) (hvl : ∀ W, Below w.heap.size w W → Calls Tryz.prog 31 #[.agg #[.int .i64 r, .int .i64 s, .slice a1 n1 c1, .string t1, .string ⟨#[]⟩]] W fun e w' => e = .returned (.bool true) ∧ Below W.heap.size W w') (hE : Env w) :
    Calls Tryz.prog 26 #[.agg #[.int .i64 r, .int .i64 s, .slice a1 n1 c1, .string t1, .string ⟨#[]⟩]] w fun e w' => ∃ r' c' f', NF r s p cs r' c' f' ∧ GetsNE r' s (3 * K + 2) c' f' w e w' := by
 by_cases hne : cs = []
 · subst hne;exact normalV_nil h hr hs hdK hd hvl hE
 · exact normalV_ne h hne hr hs hK hdK hd hvl hE
theorem normalN {d : Nat} {w : World} {r s : Int} {a1 : Option Addr} {n1 c1 : Nat} {t1 : ByteArray} {p : Rat} {cs : List (List UInt8 × Rat)} (h : LV w (.agg #[.int .i64 s, .slice a1 n1 c1, .string t1]) s d p cs) (hr : r = 1 ∨ r = 2 ∨ r = 3) (hs : s = 2 ∨ s = 3) {K : Nat} (hK : cs ≠ [] → DS K (kP cs)) (hdK : 2 * d + 1 ≤ K) (hd : K ≤ 640) (hE : Env w) :
    Calls Tryz.prog 26 #[.agg #[.int .i64 r, .int .i64 s, .slice a1 n1 c1, .string t1, .string ⟨#[]⟩]] w fun e w' => ∃ r' c' f', NF r s p cs r' c' f' ∧ GetsNE r' s (3 * K + 2) c' f' w e w' :=
 normalV h.i hr hs hK hdK hd (fun W hW => validCmp (h.far hW) hs hr (by omega) (hE.far hW)) hE
end
end Go.Proofs.YteoklapcifonaaaGreatDoor
/- The sanity check's normal form, out of the contract of Normal at any comparison: a text for claims, in place of LO. -/
namespace Go.Proofs.YteoklapcifonaaaGreatDoor
open Go.RowKit Nmx
theorem normalT {d : Nat} {w : World} {a1 : Option Addr} {n1 c1 : Nat} {t1 : ByteArray} {p : Rat} {cs : List (List UInt8 × Rat)} (h : LV w (.agg #[.int .i64 2, .slice a1 n1 c1, .string t1]) 2 d p cs) (hne : cs ≠ []) (hd : d ≤ 70) (hE : Env w) :
    Calls Tryz.prog 26 #[.agg #[.int .i64 1, .int .i64 2, .slice a1 n1 c1, .string t1, .string ⟨#[]⟩]] w (GetsCE (27 * d + 8) ((ceI (kP cs * p) : Int) : Rat) (fun n => kP cs * cof cs n) w) := by
 have hN := normalN h (.inl rfl) (.inl rfl) (K := 9 * d + 2) (fun hne => kP_ds hne (can_nz h.good.1.can) h.good.1.ds (can_len8 h.good.1)) (by omega) (by omega) hE;rw [show 3 * (9 * d + 2) + 2 = 27 * d + 8 by omega] at hN;refine hN.mono ?_;rintro e w' ⟨r', c', f', hn, hg⟩;have hk : kF 1 cs = kP cs := by unfold kF; rw [if_neg (by omega)]
 rcases hn with ⟨h0, -⟩ | ⟨-, ⟨h0, -⟩ | ⟨-, -, rfl, rfl, rfl⟩ | ⟨-, h0, -⟩ | ⟨-, h0, -⟩ | ⟨-, h0, -⟩⟩
 · exact absurd h0 hne
 · exact absurd h0 (by decide)
 · rw [hk] at hg; exact hg
 · exact absurd h0 (by decide)
 · exact absurd h0 (by decide)
 · exact absurd h0 (by decide)
end Go.Proofs.YteoklapcifonaaaGreatDoor

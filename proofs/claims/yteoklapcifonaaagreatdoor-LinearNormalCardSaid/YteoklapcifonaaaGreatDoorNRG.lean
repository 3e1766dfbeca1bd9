/- The reference's functions at texts of numbers; Floor, Sub. -/
import Derived.Test.YteoklapcifonaaaGreatDoorNRF
open Go.Lib (hid)
namespace Go.Proofs.YteoklapcifonaaaGreatDoor
open Go.RowKit Nmx
open Rf
/-- the text of a number -/
def TX (q : Rat) : ByteArray := ⟨(aK q).toArray⟩
theorem bQ (q : Rat) : (TX q).data.toList = aK q := rfl
theorem tx_size (q : Rat) : (TX q).size = (aK q).length := sz_txt _
theorem tx_of {s : ByteArray} {q : Rat} (h : ap s.data.toList = some q) : s = TX q := ba_eq s _ (ratF_some h).symm
theorem tx_ratF (q : Rat) : ap (TX q).data.toList = some q := ratF_text q
theorem DS.sz {d : Nat} {q : Rat} (h : DS d q) : (TX q).size ≤ 2 * d + 4 := by rw [tx_size]; exact Nmx.DS.len h
/-- text q comes back, and only blocks of the call's own have been made -/
def aT (q : Rat) (W : World) (e : Ending) (w' : World) : Prop := e = .returned (.string (TX q)) ∧ Below W.heap.size W w'
theorem tx_eq (p q : Rat) : ((TX p).toList == (TX q).toList) = decide (p = q) := by
 rw [Bool.eq_iff_iff, beq_iff_eq, decide_eq_true_eq, ByteArray.toList_eq, ByteArray.toList_eq, bQ, bQ];exact ⟨textQ_inj, fun h => by rw [h]⟩
theorem tx_int_zero : TX 0 = ⟨#[48]⟩ := by
 have : aK (0 : Rat) = [48] := by rw [show (0 : Rat) = ((0 : Int) : Rat) from rfl, textQ_int, decI_zero]
 unfold TX; rw [this]
theorem tx_nat (n : Nat) : TX ((n : Int) : Rat) = ⟨(af n).toArray⟩ := by unfold TX; rw [textQ_int, decI_nat]
theorem num_zero {q : Rat} : q.num = 0 ↔ q = 0 := Rat.num_eq_zero
theorem PS.fl {neg : Bool} {z : Int} {n : Nat} (h : sgn neg n = z) (h0 : neg = true → n ≠ 0) : PS (z : Rat) neg ⟨(af n).toArray⟩ ⟨#[49]⟩ := by
 subst h;refine ⟨?_, ?_, ?_⟩
 · rw [Rat.num_intCast];cases neg
   · simp [sgn]
   · have := h0 rfl
     simp [sgn]; omega
 · rw [Rat.num_intCast, sgn_natAbs]
 · rw [Rat.den_intCast, decN_one]
section
set_option maxRecDepth 100000
set_option maxHeartbeats 4000000
theorem refFloor_pos (s : ByteArray) (w : World) (hs : s.size ≤ 90000) {q : Rat} (hq0 : ap s.data.toList = some q) (hneg : ¬ q.num < 0) : Calls Tryz.prog 86 #[.string s] w (aT (flI q : Rat) w) := by
 obtain ⟨neg, nb, db, hps, hz1, hz2, hp⟩ := aH s hs hq0;have hp := hp w;obtain rfl : neg = false := by rw [hps.1]; exact decide_eq_false hneg
 have hdv := fun W => refDivMag_any nb db _ _ W hps.2.1 hps.2.2 (by omega) (by omega) q.den_pos
 have hfl := flI_eq q;rw [decide_eq_false hneg] at hfl;simp only [Bool.false_and, Bool.false_eq_true, if_false, Nat.add_zero] at hfl;have htx := fun W => textOf (PS.fl hfl (by simp)) (by rw [sz_txt]; exact aL (n := 1000000) (d := q.num.natAbs) (by rw [← hps.2.1, size_data]; omega) (Nat.div_le_self _ _)) (by decide) W
 clear hfl hps hq0 hneg hs hz1 hz2;generalize q.num.natAbs = X at *;generalize q.den = D at *;generalize (⟨(af (X / D)).toArray⟩ : ByteArray) = pq at *;generalize (⟨(af (X % D)).toArray⟩ : ByteArray) = pr at *
 go_enter Tryz.func86, Tryz.ntmps86
 go_wp2_with fail
 refine hp.mono ?_;rintro e w1 ⟨rfl, hb1⟩;have HR1 := hid (heap_alloc_new w1 (.cells #[.bool false, .string nb, .string db] 90));have HB1 := hid (hb1.alloc hb1.size (.cells #[.bool false, .string nb, .string db] 90));clear hb1 hp
 go_wp2_with fail
 refine (hdv _).mono ?_;rintro e w2 ⟨rfl, hb2⟩;have HR2 := hid ((hb2.block _ (ab HR1.out)).trans HR1.out);have HB2 := hid (HB1.out.trans (hb2.mono HB1.out.size));have k0 := aa HR2.out 0;clear hb2 hdv HB1 HR1
 go_wp2_with fail
 refine (htx _).mono ?_;rintro e w3 ⟨rfl, hb3⟩;have HB3 := hid (HB2.out.trans (hb3.mono HB2.out.size));clear hb3 htx
 go_wp2
 go_ret
 exact ⟨rfl, HB3.out⟩
theorem refFloor_exact (s : ByteArray) (w : World) (hs : s.size ≤ 90000) {q : Rat} (hq0 : ap s.data.toList = some q) (hneg : q.num < 0) (h0 : q.num.natAbs % q.den = 0) : Calls Tryz.prog 86 #[.string s] w (aT (flI q : Rat) w) := by
 obtain ⟨neg, nb, db, hps, hz1, hz2, hp⟩ := aH s hs hq0;have hp := hp w;obtain rfl : neg = true := by rw [hps.1]; exact decide_eq_true hneg
 have hdv := fun W => refDivMag_any nb db _ _ W hps.2.1 hps.2.2 (by omega) (by omega) q.den_pos
 have hfl := flI_eq q;rw [decide_eq_true hneg, h0] at hfl;simp only [ne_eq, not_true_eq_false, decide_false, Bool.and_false, Bool.false_eq_true, if_false, Nat.add_zero] at hfl;have hd := q.den_pos
 have hn0 : q.num.natAbs / q.den ≠ 0 := by
  intro e;have := Nat.div_add_mod q.num.natAbs q.den;rw [e, h0] at this
  omega
 have htx := fun W => textOf (PS.fl hfl (fun _ => hn0)) (by rw [sz_txt]; exact aL (n := 1000000) (d := q.num.natAbs) (by rw [← hps.2.1, size_data]; omega) (Nat.div_le_self _ _)) (by decide) W
 have h48 : (af (q.num.natAbs / q.den) == [48]) = false := by rw [beq_eq_false_iff_ne, ne_eq, decN_eq_zero]; exact hn0
 have h48' : ((⟨(af (q.num.natAbs / q.den)).toArray⟩ : ByteArray).toList == [48]) = false := by rw [ByteArray.toList_eq]; exact h48
 rw [h0, decN_zero] at hdv;clear hfl hps hq0 hneg hs hz1 hz2 h0 hn0 h48 hd;generalize q.num.natAbs = X at *;generalize q.den = D at *;generalize (⟨(af (X / D)).toArray⟩ : ByteArray) = pq at *
 go_enter Tryz.func86, Tryz.ntmps86
 go_wp2_with fail
 refine hp.mono ?_;rintro e w1 ⟨rfl, hb1⟩;have HR1 := hid (heap_alloc_new w1 (.cells #[.bool true, .string nb, .string db] 90));have HB1 := hid (hb1.alloc hb1.size (.cells #[.bool true, .string nb, .string db] 90));clear hb1 hp
 go_wp2_with fail
 refine (hdv _).mono ?_;rintro e w2 ⟨rfl, hb2⟩;have HR2 := hid ((hb2.block _ (ab HR1.out)).trans HR1.out);have HB2 := hid (HB1.out.trans (hb2.mono HB1.out.size));have k0 := aa HR2.out 0;clear hb2 hdv HB1 HR1
 go_wp2_with fail
 refine (htx _).mono ?_;rintro e w3 ⟨rfl, hb3⟩;have HB3 := hid (HB2.out.trans (hb3.mono HB2.out.size));clear hb3 htx
 go_wp2
 go_ret
 exact ⟨rfl, HB3.out⟩
theorem refFloor_more (s : ByteArray) (w : World) (hs : s.size ≤ 90000) {q : Rat} (hq0 : ap s.data.toList = some q) (hneg : q.num < 0) (h0 : q.num.natAbs % q.den ≠ 0) : Calls Tryz.prog 86 #[.string s] w (aT (flI q : Rat) w) := by
 obtain ⟨neg, nb, db, hps, hz1, hz2, hp⟩ := aH s hs hq0;have hp := hp w;obtain rfl : neg = true := by rw [hps.1]; exact decide_eq_true hneg
 have hdv := fun W => refDivMag_any nb db _ _ W hps.2.1 hps.2.2 (by omega) (by omega) q.den_pos
 have hfl := flI_eq q;rw [decide_eq_true hneg, decide_eq_true h0, Bool.true_and, if_pos rfl] at hfl;have hl : (af (q.num.natAbs / q.den)).length ≤ 90000 := aL (d := q.num.natAbs) (by rw [← hps.2.1, size_data]; omega) (Nat.div_le_self _ _);have hl1 : (af (q.num.natAbs / q.den + 1)).length ≤ 90001 := dec_len_add hl (by rw [decN_one]; decide);have htx := fun W => textOf (PS.fl hfl (fun _ => Nat.succ_ne_zero _)) (by rw [sz_txt]; omega) (by decide) W
 have hadd := fun W => refAddMag_any ⟨(af (q.num.natAbs / q.den)).toArray⟩ ⟨#[49]⟩ (q.num.natAbs / q.den) 1 W rfl decN_one.symm (by rw [sz_txt]; omega) (by decide)
 have hr48 : ((⟨(af (q.num.natAbs % q.den)).toArray⟩ : ByteArray).toList == [48]) = false := by rw [ByteArray.toList_eq, beq_eq_false_iff_ne, ne_eq, decN_eq_zero]; exact h0
 have h48' : ((⟨(af (q.num.natAbs / q.den + 1)).toArray⟩ : ByteArray).toList == [48]) = false := by rw [ByteArray.toList_eq, beq_eq_false_iff_ne, ne_eq, decN_eq_zero]; exact Nat.succ_ne_zero _
 clear hfl hps hq0 hneg hs hz1 hz2 h0 hl hl1;generalize q.num.natAbs = X at *;generalize q.den = D at *;generalize (⟨(af (X / D)).toArray⟩ : ByteArray) = pq at *;generalize (⟨(af (X / D + 1)).toArray⟩ : ByteArray) = pq1 at *;generalize (⟨(af (X % D)).toArray⟩ : ByteArray) = pr at *
 go_enter Tryz.func86, Tryz.ntmps86
 go_wp2_with fail
 refine hp.mono ?_;rintro e w1 ⟨rfl, hb1⟩;have HR1 := hid (heap_alloc_new w1 (.cells #[.bool true, .string nb, .string db] 90));have HB1 := hid (hb1.alloc hb1.size (.cells #[.bool true, .string nb, .string db] 90));clear hb1 hp
 go_wp2_with fail
 refine (hdv _).mono ?_;rintro e w2 ⟨rfl, hb2⟩;have HR2 := hid ((hb2.block _ (ab HR1.out)).trans HR1.out);have HB2 := hid (HB1.out.trans (hb2.mono HB1.out.size));have k0 := aa HR2.out 0;clear hb2 hdv HB1 HR1
 go_wp2_with fail
 refine (hadd _).mono ?_;rintro e w3 ⟨rfl, hb3⟩;have HR3 := hid ((hb3.block _ (ab HR2.out)).trans HR2.out);have HB3 := hid (HB2.out.trans (hb3.mono HB2.out.size));clear k0;have k0 := aa HR3.out 0;clear hb3 hadd HB2 HR2
 go_wp2_with fail
 refine (htx _).mono ?_;rintro e w4 ⟨rfl, hb4⟩;have HB4 := hid (HB3.out.trans (hb4.mono HB3.out.size));clear hb4 htx
 go_wp2
 go_ret
 exact ⟨rfl, HB4.out⟩
end
section
theorem refValidT {d : Nat} {p : Rat} (hp : DS d p) (hd : d ≤ 40000) (W : World) : Calls Tryz.prog 72 #[.string (TX p)] W fun e w' => e = .returned (.bool true) ∧ Below W.heap.size W w' := by
 have h := refValid_any (TX p) W (by have := DS.sz hp; omega);rw [tx_ratF] at h; exact h
theorem bA {d : Nat} {p : Rat} (hp : DS d p) (hd : d ≤ 40000) (W : World) : Calls Tryz.prog 41 #[.string (TX p)] W fun e w' => e = .returned (.bool (decide (p.den = 1))) ∧ Below W.heap.size W w' := by
 have h := bH (TX p) W (by have := DS.sz hp; omega);unfold isI at h;rw [tx_ratF] at h; exact h
theorem refSignT {d : Nat} {p : Rat} (hp : DS d p) (hd : d ≤ 40000) (W : World) : Calls Tryz.prog 75 #[.string (TX p)] W fun e w' => e = .returned (.int .i64 (bc p.num)) ∧ Below W.heap.size W w' := by
 have h := refSign_any (TX p) W (by have := DS.sz hp; omega);unfold sgO at h;rw [tx_ratF] at h; exact h
theorem refNegT {d : Nat} {p : Rat} (hp : DS d p) (hd : d ≤ 40000) (W : World) : Calls Tryz.prog 82 #[.string (TX p)] W (aT (-p) W) := by
 have h := refNeg_any (TX p) W (by have := DS.sz hp; omega);rw [bQ, on1_text] at h; exact h
theorem refAbsT {d : Nat} {p : Rat} (hp : DS d p) (hd : d ≤ 40000) (W : World) : Calls Tryz.prog 137 #[.string (TX p)] W (aT (if p.num < 0 then -p else p) W) := by
 have h := refAbs_any (TX p) W (by have := DS.sz hp; omega);rw [bQ, on1_text] at h; exact h
theorem refAddT {d e : Nat} {p q : Rat} (hp : DS d p) (hq : DS e q) (hd : d ≤ 9000) (he : e ≤ 9000) (W : World) : Calls Tryz.prog 85 #[.string (TX p), .string (TX q)] W (aT (p + q) W) := by
 have h := refAdd_any (TX p) (TX q) W (by have := DS.sz hp; omega) (by have := DS.sz hq; omega);rw [bQ, bQ, on2_text] at h; exact h
theorem refMulT {d e : Nat} {p q : Rat} (hp : DS d p) (hq : DS e q) (hd : d ≤ 9000) (he : e ≤ 9000) (W : World) : Calls Tryz.prog 81 #[.string (TX p), .string (TX q)] W (aT (p * q) W) := by
 have h := refMul_any (TX p) (TX q) W (by have := DS.sz hp; omega) (by have := DS.sz hq; omega);rw [bQ, bQ, on2_text] at h; exact h
theorem refDivT {d e : Nat} {p q : Rat} (hp : DS d p) (hq : DS e q) (hd : d ≤ 9000) (he : e ≤ 9000) (h0 : q.num ≠ 0) (W : World) : Calls Tryz.prog 22 #[.string (TX p), .string (TX q)] W (aT (p / q) W) := by
 have h := refDiv_any (TX p) (TX q) W (by have := DS.sz hp; omega) (by have := DS.sz hq; omega);rw [bQ, bQ, on2_text] at h;unfold divO at h;rw [if_neg h0] at h; exact h
theorem refFloorT {d : Nat} {p : Rat} (hp : DS d p) (hd : d ≤ 40000) (W : World) : Calls Tryz.prog 86 #[.string (TX p)] W (aT (flI p : Rat) W) := by
 have hs : (TX p).size ≤ 90000 := by have := DS.sz hp; omega
 by_cases hn : p.num < 0
 · by_cases h0 : p.num.natAbs % p.den = 0
   · exact refFloor_exact (TX p) W hs (tx_ratF p) hn h0
   · exact refFloor_more (TX p) W hs (tx_ratF p) hn h0
 · exact refFloor_pos (TX p) W hs (tx_ratF p) hn
end
end Go.Proofs.YteoklapcifonaaaGreatDoor
namespace Nmx
theorem on2_sub (a b : List UInt8) : on2 addO a (txt ((ap b).bind fun x => some (-x))) = on2 subO a b := by
 unfold on2;cases hb : ap b with
 | none =>
   show txt ((ap a).bind fun x => (ap []).bind fun y => addO x y) = _;rw [ratF_nil];cases ap a <;> rfl
 | some q =>
   show txt ((ap a).bind fun x => (ap (aK (-q))).bind fun y => addO x y) = _;rw [ratF_text];cases ap a with
   | none => rfl
   | some p =>
     show txt (some (p + -q)) = txt (some (p - q));rw [Rat.sub_eq_add_neg]
theorem rat_int {p : Rat} (h : p.den = 1) : p = (p.num : Rat) := by
 apply Rat.ext
 · rw [Rat.num_intCast]
 · rw [Rat.den_intCast, h]
theorem abs_int {q : Rat} (h : q.den = 1) : (if q.num < 0 then -q else q) = ((q.num.natAbs : Int) : Rat) := by
 by_cases hn : q.num < 0
 · rw [if_pos hn]
   conv => lhs; rw [rat_int h]
   rw [← Rat.intCast_neg]; congr 1; omega
 · rw [if_neg hn]
   conv => lhs; rw [rat_int h]
   congr 1; omega
theorem quo_pos {a b : Int} (hb : b ≠ 0) (hn : ¬ b < 0) : flI ((a : Rat) / ((b.natAbs : Int) : Rat)) = a / b := by
 rw [flI_div _ _ (by omega)]; congr 1; omega
theorem quo_neg {a b : Int} (hn : b < 0) : -((flI ((a : Rat) / ((b.natAbs : Int) : Rat)) : Int) : Rat) = ((a / b : Int) : Rat) := by
 rw [flI_div _ _ (by omega), ← Rat.intCast_neg, ← Int.ediv_neg]
 congr 2; omega
theorem rem_eq (a b : Int) : (a : Rat) - (b : Rat) * ((a / b : Int) : Rat) = ((a % b : Int) : Rat) := by
 rw [Int.emod_def, Rat.intCast_sub, Rat.intCast_mul]
theorem lcm_eq {a b : Int} (ha : a ≠ 0) (hb : b ≠ 0) : (a : Rat) * (b : Rat) / ((Int.gcd a b : Int) : Rat) = ((a / Int.gcd a b * b : Int) : Rat) ∧ lcI a b = ((a / Int.gcd a b * b).natAbs : Int) := by
 have hg : 0 < Int.gcd a b := Int.gcd_pos_iff.2 (.inl ha);have hd : (Int.gcd a b : Int) ∣ a := Int.gcd_dvd_left ..;have e : a = Int.gcd a b * (a / Int.gcd a b) := (Int.mul_ediv_cancel' hd).symm;refine ⟨?_, ?_⟩
 · generalize a / Int.gcd a b = t at *;generalize Int.gcd a b = g at *
   have hg2 : ((g : Int) : Rat) ≠ 0 := by
    intro h;have := congrArg Rat.num h;rw [Rat.num_intCast] at this;have h0 : (0 : Rat).num = 0 := rfl
    omega
   rw [e, Rat.intCast_mul, Rat.intCast_mul]
   grind
 · unfold lcI;rw [if_neg (by omega)]
end Nmx
namespace Go.Proofs.YteoklapcifonaaaGreatDoor
open Go.RowKit Nmx
open Rf
theorem on1_neg_len (l : List UInt8) : (on1 negO l).length ≤ 2 * l.length + 4 := by
 cases h : ap l with
 | none => rw [on1_none h]; simp
 | some q =>
   rw [on1_some h];exact Nmx.DS.len (ds_of h).neg
theorem isI_of {l : List UInt8} {q : Rat} (h : ap l = some q) : isI l = decide (q.den = 1) := by unfold isI; rw [h]
theorem isI_true {l : List UInt8} (h : isI l = true) : ∃ q, ap l = some q ∧ q.den = 1 := by
 unfold isI at h
 split at h
 · rename_i q hq; exact ⟨q, hq, by simpa using h⟩
 · cases h
theorem on2_noint {f : Rat → Rat → Option Rat} {a b : List UInt8} (hf : ∀ x y, ¬ (x.den = 1 ∧ y.den = 1) → f x y = none) (h : ¬ (isI a = true ∧ isI b = true)) : on2 f a b = [] := by
 unfold on2;cases ha : ap a with
 | none => rfl
 | some p =>
   cases hb : ap b with
   | none => rfl
   | some q =>
     show txt (f p q) = [];rw [hf p q fun h2 => h ⟨by rw [isI_of ha, decide_eq_true h2.1], by rw [isI_of hb, decide_eq_true h2.2]⟩];rfl
section
set_option maxRecDepth 100000
set_option maxHeartbeats 4000000
theorem refSub_any (s t : ByteArray) (w : World) (hs : s.size ≤ 20000) (ht : t.size ≤ 9000) : Calls Tryz.prog 164 #[.string s, .string t] w fun e w' => e = .returned (.string ⟨(on2 subO s.data.toList t.data.toList).toArray⟩) ∧ Below w.heap.size w w' := by
    have h1 := fun W => refNeg_any t W (by omega)
    have hl := on1_neg_len t.data.toList;rw [size_data] at hl;have h2 := fun W => refAdd_any s ⟨(on1 negO t.data.toList).toArray⟩ W hs (by rw [sz_txt]; omega)
    have HI : Hid (on2 addO s.data.toList (⟨(on1 negO t.data.toList).toArray⟩ : ByteArray).data.toList = on2 subO s.data.toList t.data.toList) := hid (on2_sub _ _);clear hl;generalize (⟨(on1 negO t.data.toList).toArray⟩ : ByteArray) = tn at *
    go_enter Tryz.func164, Tryz.ntmps164
    go_wp2_with fail
    refine (h1 _).mono ?_;rintro e w1 ⟨rfl, hb1⟩;have HB1 := hid hb1;clear hb1
    go_wp2_with fail
    refine (h2 _).mono ?_;rintro e w2 ⟨rfl, hb2⟩;have HB2 := hid (HB1.out.trans (hb2.mono HB1.out.size));clear hb2
    go_wp2
    go_ret
    exact ⟨au (by rw [HI.out]), HB2.out⟩
theorem refSubT {d e : Nat} {p q : Rat} (hp : DS d p) (hq : DS e q) (hd : d ≤ 9000) (he : e ≤ 4000) (W : World) : Calls Tryz.prog 164 #[.string (TX p), .string (TX q)] W (aT (p - q) W) := by
 have h := refSub_any (TX p) (TX q) W (by have := DS.sz hp; omega) (by have := DS.sz hq; omega);rw [bQ, bQ, on2_text] at h; exact h
theorem refQuo_left (s t : ByteArray) (w : World) (hs : s.size ≤ 2000) (_ : t.size ≤ 2000) (hq : isI s.data.toList = false) : Calls Tryz.prog 163 #[.string s, .string t] w fun e w' => e = .returned (.string ⟨(on2 quoO s.data.toList t.data.toList).toArray⟩) ∧ Below w.heap.size w w' := by
    have h1 := fun W => bH s W (by omega)
    rw [hq] at h1;have HI := hid (on2_noint (f := quoO) (a := s.data.toList) (b := t.data.toList) (fun x y h => by unfold quoO; rw [if_neg fun h2 => h ⟨h2.1, h2.2.1⟩]) (by rw [hq]; simp));clear hq
    go_enter Tryz.func163, Tryz.ntmps163
    go_wp2_with fail
    refine (h1 _).mono ?_;rintro e w1 ⟨rfl, hb1⟩;have HB1 := hid hb1;clear hb1
    go_wp2
    go_ret
    exact ⟨au (by rw [HI.out]), HB1.out⟩
theorem refQuo_right (s t : ByteArray) (w : World) (hs : s.size ≤ 2000) (ht : t.size ≤ 2000) (hp : isI s.data.toList = true) (hq : isI t.data.toList = false) : Calls Tryz.prog 163 #[.string s, .string t] w fun e w' => e = .returned (.string ⟨(on2 quoO s.data.toList t.data.toList).toArray⟩) ∧ Below w.heap.size w w' := by
    have h1 := fun W => bH s W (by omega)
    have h2 := fun W => bH t W (by omega)
    rw [hp] at h1;rw [hq] at h2;have HI := hid (on2_noint (f := quoO) (a := s.data.toList) (b := t.data.toList) (fun x y h => by unfold quoO; rw [if_neg fun h2 => h ⟨h2.1, h2.2.1⟩]) (by rw [hq]; simp));clear hq hp
    go_enter Tryz.func163, Tryz.ntmps163
    go_wp2_with fail
    refine (h1 _).mono ?_;rintro e w1 ⟨rfl, hb1⟩;have HB1 := hid hb1;clear hb1
    go_wp2_with fail
    refine (h2 _).mono ?_;rintro e w2 ⟨rfl, hb2⟩;have HB2 := hid (HB1.out.trans (hb2.mono HB1.out.size));clear hb2
    go_wp2
    go_ret
    exact ⟨au (by rw [HI.out]), HB2.out⟩
theorem refGcd_left (s t : ByteArray) (w : World) (hs : s.size ≤ 2000) (_ : t.size ≤ 2000) (hq : isI s.data.toList = false) : Calls Tryz.prog 80 #[.string s, .string t] w fun e w' => e = .returned (.string ⟨(on2 gcdO s.data.toList t.data.toList).toArray⟩) ∧ Below w.heap.size w w' := by
    have h1 := fun W => bH s W (by omega)
    rw [hq] at h1;have HI := hid (on2_noint (f := gcdO) (a := s.data.toList) (b := t.data.toList) (fun x y h => by unfold gcdO; rw [if_neg h]) (by rw [hq]; simp));clear hq
    go_enter Tryz.func80, Tryz.ntmps80
    go_wp2_with fail
    refine (h1 _).mono ?_;rintro e w1 ⟨rfl, hb1⟩;have HB1 := hid hb1;clear hb1
    go_wp2
    go_ret
    exact ⟨au (by rw [HI.out]), HB1.out⟩
theorem refGcd_right (s t : ByteArray) (w : World) (hs : s.size ≤ 2000) (ht : t.size ≤ 2000) (hp : isI s.data.toList = true) (hq : isI t.data.toList = false) : Calls Tryz.prog 80 #[.string s, .string t] w fun e w' => e = .returned (.string ⟨(on2 gcdO s.data.toList t.data.toList).toArray⟩) ∧ Below w.heap.size w w' := by
    have h1 := fun W => bH s W (by omega)
    have h2 := fun W => bH t W (by omega)
    rw [hp] at h1;rw [hq] at h2;have HI := hid (on2_noint (f := gcdO) (a := s.data.toList) (b := t.data.toList) (fun x y h => by unfold gcdO; rw [if_neg h]) (by rw [hq]; simp));clear hq hp
    go_enter Tryz.func80, Tryz.ntmps80
    go_wp2_with fail
    refine (h1 _).mono ?_;rintro e w1 ⟨rfl, hb1⟩;have HB1 := hid hb1;clear hb1
    go_wp2_with fail
    refine (h2 _).mono ?_;rintro e w2 ⟨rfl, hb2⟩;have HB2 := hid (HB1.out.trans (hb2.mono HB1.out.size));clear hb2
    go_wp2
    go_ret
    exact ⟨au (by rw [HI.out]), HB2.out⟩
theorem refLcm_left (s t : ByteArray) (w : World) (hs : s.size ≤ 2000) (_ : t.size ≤ 2000) (hq : isI s.data.toList = false) : Calls Tryz.prog 78 #[.string s, .string t] w fun e w' => e = .returned (.string ⟨(on2 lcmO s.data.toList t.data.toList).toArray⟩) ∧ Below w.heap.size w w' := by
    have h1 := fun W => bH s W (by omega)
    rw [hq] at h1;have HI := hid (on2_noint (f := lcmO) (a := s.data.toList) (b := t.data.toList) (fun x y h => by unfold lcmO; rw [if_neg h]) (by rw [hq]; simp));clear hq
    go_enter Tryz.func78, Tryz.ntmps78
    go_wp2_with fail
    refine (h1 _).mono ?_;rintro e w1 ⟨rfl, hb1⟩;have HB1 := hid hb1;clear hb1
    go_wp2
    go_ret
    exact ⟨au (by rw [HI.out]), HB1.out⟩
theorem refLcm_right (s t : ByteArray) (w : World) (hs : s.size ≤ 2000) (ht : t.size ≤ 2000) (hp : isI s.data.toList = true) (hq : isI t.data.toList = false) : Calls Tryz.prog 78 #[.string s, .string t] w fun e w' => e = .returned (.string ⟨(on2 lcmO s.data.toList t.data.toList).toArray⟩) ∧ Below w.heap.size w w' := by
    have h1 := fun W => bH s W (by omega)
    have h2 := fun W => bH t W (by omega)
    rw [hp] at h1;rw [hq] at h2;have HI := hid (on2_noint (f := lcmO) (a := s.data.toList) (b := t.data.toList) (fun x y h => by unfold lcmO; rw [if_neg h]) (by rw [hq]; simp));clear hq hp
    go_enter Tryz.func78, Tryz.ntmps78
    go_wp2_with fail
    refine (h1 _).mono ?_;rintro e w1 ⟨rfl, hb1⟩;have HB1 := hid hb1;clear hb1
    go_wp2_with fail
    refine (h2 _).mono ?_;rintro e w2 ⟨rfl, hb2⟩;have HB2 := hid (HB1.out.trans (hb2.mono HB1.out.size));clear hb2
    go_wp2
    go_ret
    exact ⟨au (by rw [HI.out]), HB2.out⟩
theorem refQuo_zero (s t : ByteArray) (w : World) (hs : s.size ≤ 2000) (ht : t.size ≤ 2000) {p q : Rat} (hp : ap s.data.toList = some p) (hq : ap t.data.toList = some q) (hpd : p.den = 1) (hqd : q.den = 1) (h0 : q.num = 0) : Calls Tryz.prog 163 #[.string s, .string t] w fun e w' => e = .returned (.string ⟨(on2 quoO s.data.toList t.data.toList).toArray⟩) ∧ Below w.heap.size w w' := by
    have HI : Hid (on2 quoO s.data.toList t.data.toList = []) := hid (by rw [bI hp hq]; unfold quoO; rw [if_neg fun h => h.2.2 h0]; rfl);have dp : DS 2000 p := (ds_of hp).mono (by rw [size_data]; omega);have dq : DS 2000 q := (ds_of hq).mono (by rw [size_data]; omega);obtain rfl := tx_of hp;obtain rfl := tx_of hq;have h1 := fun W => bA dp (by omega) W
    have h2 := fun W => bA dq (by omega) W
    rw [decide_eq_true hpd] at h1;rw [decide_eq_true hqd] at h2
    have hz : ((TX q).toList == [48]) = true := by
     have := tx_eq q 0;rw [decide_eq_true (num_zero.1 h0), tx_int_zero] at this;rw [ByteArray.toList_eq (bs := ⟨#[48]⟩)] at this;exact this
    clear hp hq dp dq hs ht hpd hqd h0;generalize TX p = tp at *;generalize TX q = tq at *
    go_enter Tryz.func163, Tryz.ntmps163
    go_wp2_with fail
    refine (h1 _).mono ?_;rintro e w1 ⟨rfl, hb1⟩;have HB1 := hid hb1;clear hb1
    go_wp2_with fail
    refine (h2 _).mono ?_;rintro e w2 ⟨rfl, hb2⟩;have HB2 := hid (HB1.out.trans (hb2.mono HB1.out.size));clear hb2
    go_wp2
    go_ret
    exact ⟨au (by rw [HI.out]), HB2.out⟩
theorem refQuo_pos (s t : ByteArray) (w : World) (hs : s.size ≤ 2000) (ht : t.size ≤ 2000) {p q : Rat} (hp : ap s.data.toList = some p) (hq : ap t.data.toList = some q) (hpd : p.den = 1) (hqd : q.den = 1) (h0 : q.num ≠ 0) (hn : ¬ q.num < 0) : Calls Tryz.prog 163 #[.string s, .string t] w fun e w' => e = .returned (.string ⟨(on2 quoO s.data.toList t.data.toList).toArray⟩) ∧ Below w.heap.size w w' := by
    have HI : Hid ((⟨(on2 quoO s.data.toList t.data.toList).toArray⟩ : ByteArray) = TX ((p.num / q.num : Int) : Rat)) := hid (by rw [bI hp hq]; unfold quoO; rw [if_pos ⟨hpd, hqd, h0⟩]; rfl);have dp : DS 2000 p := (ds_of hp).mono (by rw [size_data]; omega);have dq : DS 2000 q := (ds_of hq).mono (by rw [size_data]; omega);obtain rfl := tx_of hp;obtain rfl := tx_of hq;have h1 := fun W => bA dp (by omega) W
    have h2 := fun W => bA dq (by omega) W
    rw [decide_eq_true hpd] at h1;rw [decide_eq_true hqd] at h2
    have hz : ((TX q).toList == [48]) = false := by
     have := tx_eq q 0;rw [decide_eq_false (fun e => h0 (num_zero.2 e)), tx_int_zero] at this;rw [ByteArray.toList_eq (bs := ⟨#[48]⟩)] at this;exact this
    have h3 := fun W => refAbsT dq (by omega) W
    rw [abs_int hqd] at h3;have da : DS 2000 (((q.num.natAbs : Int)) : Rat) := DS.int (by rw [Int.natAbs_natCast]; exact dq.1);have h4 := fun W => refDivT dp da (by omega) (by omega) (by rw [Rat.num_intCast]; omega) W
    have dd := dp.div da (by rw [Rat.num_intCast]; omega);have h5 := fun W => refFloorT dd (by omega) W
    have h6 := fun W => refSignT dq (by omega) W
    have hpi := rat_int hpd;have HE : Hid (((flI (p / ((q.num.natAbs : Int) : Rat)) : Int) : Rat) = ((p.num / q.num : Int) : Rat)) := hid (by (conv => lhs; rw [hpi]); rw [quo_pos h0 hn]);rw [HE.out] at h5;have hsg : ¬ bc q.num < 0 := by unfold bc; rw [if_neg hn]; split <;> omega
    clear hp hq dp dq hs ht hpd hqd h0 hn da dd hpi HE;unfold aT at *;generalize TX ((p.num / q.num : Int) : Rat) = tr at *;generalize bc q.num = z at *;generalize TX (p / ((q.num.natAbs : Int) : Rat)) = td at *;generalize TX ((q.num.natAbs : Int) : Rat) = ta at *;generalize TX p = tp at *;generalize TX q = tq at *
    go_enter Tryz.func163, Tryz.ntmps163
    go_wp2_with fail
    refine (h1 _).mono ?_;rintro e w1 ⟨rfl, hb1⟩;have HB1 := hid hb1;clear hb1
    go_wp2_with fail
    refine (h2 _).mono ?_;rintro e w2 ⟨rfl, hb2⟩;have HB2 := hid (HB1.out.trans (hb2.mono HB1.out.size));clear hb2
    go_wp2_with fail
    refine (h3 _).mono ?_;rintro e w3 ⟨rfl, hb3⟩;have HB3 := hid (HB2.out.trans (hb3.mono HB2.out.size));clear hb3
    go_wp2_with fail
    refine (h4 _).mono ?_;rintro e w4 ⟨rfl, hb4⟩;have HB4 := hid (HB3.out.trans (hb4.mono HB3.out.size));clear hb4
    go_wp2_with fail
    refine (h5 _).mono ?_;rintro e w5 ⟨rfl, hb5⟩;have HB5 := hid (HB4.out.trans (hb5.mono HB4.out.size));clear hb5
    go_wp2_with fail
    refine (h6 _).mono ?_;rintro e w6 ⟨rfl, hb6⟩;have HB6 := hid (HB5.out.trans (hb6.mono HB5.out.size));clear hb6
    go_wp2
    go_ret
    exact ⟨au (by rw [HI.out]), HB6.out⟩
theorem refQuo_neg (s t : ByteArray) (w : World) (hs : s.size ≤ 2000) (ht : t.size ≤ 2000) {p q : Rat} (hp : ap s.data.toList = some p) (hq : ap t.data.toList = some q) (hpd : p.den = 1) (hqd : q.den = 1) (hn : q.num < 0) : Calls Tryz.prog 163 #[.string s, .string t] w fun e w' => e = .returned (.string ⟨(on2 quoO s.data.toList t.data.toList).toArray⟩) ∧ Below w.heap.size w w' := by
    have h0 : q.num ≠ 0 := by omega
    have HI : Hid ((⟨(on2 quoO s.data.toList t.data.toList).toArray⟩ : ByteArray) = TX ((p.num / q.num : Int) : Rat)) := hid (by rw [bI hp hq]; unfold quoO; rw [if_pos ⟨hpd, hqd, h0⟩]; rfl);have dp : DS 2000 p := (ds_of hp).mono (by rw [size_data]; omega);have dq : DS 2000 q := (ds_of hq).mono (by rw [size_data]; omega);obtain rfl := tx_of hp;obtain rfl := tx_of hq;have h1 := fun W => bA dp (by omega) W
    have h2 := fun W => bA dq (by omega) W
    rw [decide_eq_true hpd] at h1;rw [decide_eq_true hqd] at h2
    have hz : ((TX q).toList == [48]) = false := by
     have := tx_eq q 0;rw [decide_eq_false (fun e => h0 (num_zero.2 e)), tx_int_zero] at this;rw [ByteArray.toList_eq (bs := ⟨#[48]⟩)] at this;exact this
    have h3 := fun W => refAbsT dq (by omega) W
    rw [abs_int hqd] at h3;have da : DS 2000 (((q.num.natAbs : Int)) : Rat) := DS.int (by rw [Int.natAbs_natCast]; exact dq.1);have h4 := fun W => refDivT dp da (by omega) (by omega) (by rw [Rat.num_intCast]; omega) W
    have dd := dp.div da (by rw [Rat.num_intCast]; omega);have h5 := fun W => refFloorT dd (by omega) W
    have h6 := fun W => refSignT dq (by omega) W
    have hpi := rat_int hpd;have h7 := fun W => refNegT dd.fl (by omega) W
    have HE : Hid (-((flI (p / ((q.num.natAbs : Int) : Rat)) : Int) : Rat) = ((p.num / q.num : Int) : Rat)) := hid (by (conv => lhs; rw [hpi]); rw [quo_neg hn]);rw [HE.out] at h7;have hsg : bc q.num < 0 := by unfold bc; rw [if_pos hn]; omega
    clear hp hq dp dq hs ht hpd hqd h0 hn da dd hpi HE;unfold aT at *;generalize TX ((p.num / q.num : Int) : Rat) = tr at *;generalize TX ((flI (p / ((q.num.natAbs : Int) : Rat)) : Int) : Rat) = tf at *;generalize bc q.num = z at *;generalize TX (p / ((q.num.natAbs : Int) : Rat)) = td at *;generalize TX ((q.num.natAbs : Int) : Rat) = ta at *;generalize TX p = tp at *;generalize TX q = tq at *
    go_enter Tryz.func163, Tryz.ntmps163
    go_wp2_with fail
    refine (h1 _).mono ?_;rintro e w1 ⟨rfl, hb1⟩;have HB1 := hid hb1;clear hb1
    go_wp2_with fail
    refine (h2 _).mono ?_;rintro e w2 ⟨rfl, hb2⟩;have HB2 := hid (HB1.out.trans (hb2.mono HB1.out.size));clear hb2
    go_wp2_with fail
    refine (h3 _).mono ?_;rintro e w3 ⟨rfl, hb3⟩;have HB3 := hid (HB2.out.trans (hb3.mono HB2.out.size));clear hb3
    go_wp2_with fail
    refine (h4 _).mono ?_;rintro e w4 ⟨rfl, hb4⟩;have HB4 := hid (HB3.out.trans (hb4.mono HB3.out.size));clear hb4
    go_wp2_with fail
    refine (h5 _).mono ?_;rintro e w5 ⟨rfl, hb5⟩;have HB5 := hid (HB4.out.trans (hb5.mono HB4.out.size));clear hb5
    go_wp2_with fail
    refine (h6 _).mono ?_;rintro e w6 ⟨rfl, hb6⟩;have HB6 := hid (HB5.out.trans (hb6.mono HB5.out.size));clear hb6
    go_wp2_with fail
    refine (h7 _).mono ?_;rintro e w7 ⟨rfl, hb7⟩;have HB7 := hid (HB6.out.trans (hb7.mono HB6.out.size));clear hb7
    go_wp2
    go_ret
    exact ⟨au (by rw [HI.out]), HB7.out⟩
theorem refQuo_any (s t : ByteArray) (w : World) (hs : s.size ≤ 2000) (ht : t.size ≤ 2000)  : Calls Tryz.prog 163 #[.string s, .string t] w fun e w' => e = .returned (.string ⟨(on2 quoO s.data.toList t.data.toList).toArray⟩) ∧ Below w.heap.size w w' := by
 by_cases hp : isI s.data.toList = true
 · by_cases hq : isI t.data.toList = true
   · obtain ⟨p, hp1, hp2⟩ := isI_true hp;obtain ⟨q, hq1, hq2⟩ := isI_true hq
     by_cases h0 : q.num = 0
     · exact refQuo_zero s t w hs ht hp1 hq1 hp2 hq2 h0
     · by_cases hn : q.num < 0
       · exact refQuo_neg s t w hs ht hp1 hq1 hp2 hq2 hn
       · exact refQuo_pos s t w hs ht hp1 hq1 hp2 hq2 h0 hn
   · exact refQuo_right s t w hs ht hp (by simpa using hq)
 · exact refQuo_left s t w hs ht (by simpa using hp)
theorem refGcd_both (s t : ByteArray) (w : World) (hs : s.size ≤ 2000) (ht : t.size ≤ 2000) {p q : Rat} (hp : ap s.data.toList = some p) (hq : ap t.data.toList = some q) (hpd : p.den = 1) (hqd : q.den = 1) : Calls Tryz.prog 80 #[.string s, .string t] w fun e w' => e = .returned (.string ⟨(on2 gcdO s.data.toList t.data.toList).toArray⟩) ∧ Below w.heap.size w w' := by
    have HI : Hid ((⟨(on2 gcdO s.data.toList t.data.toList).toArray⟩ : ByteArray) = ⟨(af (q.num.natAbs.gcd p.num.natAbs)).toArray⟩) := hid (by
     rw [bI hp hq]; unfold gcdO; rw [if_pos ⟨hpd, hqd⟩, Nat.gcd_comm]; exact tx_nat _)
    rw [Nat.gcd_comm] at HI;have dp : DS 2000 p := (ds_of hp).mono (by rw [size_data]; omega);have dq : DS 2000 q := (ds_of hq).mono (by rw [size_data]; omega);obtain rfl := tx_of hp;obtain rfl := tx_of hq;have h1 := fun W => bA dp (by omega) W
    have h2 := fun W => bA dq (by omega) W
    rw [decide_eq_true hpd] at h1;rw [decide_eq_true hqd] at h2;have h3 := fun W => refAbsT dp (by omega) W
    have h4 := fun W => refAbsT dq (by omega) W
    rw [abs_int hpd] at h3;rw [abs_int hqd] at h4;unfold aT at h3 h4;rw [tx_nat] at h3 h4;have l1 := dp.decN_num;have l2 := dq.decN_num;have h5 := fun W => refGcdMag_any ⟨(af p.num.natAbs).toArray⟩ ⟨(af q.num.natAbs).toArray⟩ _ _ W rfl rfl (by rw [sz_txt]; omega) (by rw [sz_txt]; omega)
    clear hp hq dp dq hs ht hpd hqd l1 l2;generalize (⟨(af p.num.natAbs).toArray⟩ : ByteArray) = ta at *;generalize (⟨(af q.num.natAbs).toArray⟩ : ByteArray) = tb at *;generalize (⟨(af (p.num.natAbs.gcd q.num.natAbs)).toArray⟩ : ByteArray) = tg at *;generalize TX p = tp at *;generalize TX q = tq at *
    go_enter Tryz.func80, Tryz.ntmps80
    go_wp2_with fail
    refine (h1 _).mono ?_;rintro e w1 ⟨rfl, hb1⟩;have HB1 := hid hb1;clear hb1
    go_wp2_with fail
    refine (h2 _).mono ?_;rintro e w2 ⟨rfl, hb2⟩;have HB2 := hid (HB1.out.trans (hb2.mono HB1.out.size));clear hb2
    go_wp2_with fail
    refine (h3 _).mono ?_;rintro e w3 ⟨rfl, hb3⟩;have HB3 := hid (HB2.out.trans (hb3.mono HB2.out.size));clear hb3
    go_wp2_with fail
    refine (h4 _).mono ?_;rintro e w4 ⟨rfl, hb4⟩;have HB4 := hid (HB3.out.trans (hb4.mono HB3.out.size));clear hb4
    go_wp2_with fail
    refine (h5 _).mono ?_;rintro e w5 ⟨rfl, hb5⟩;have HB5 := hid (HB4.out.trans (hb5.mono HB4.out.size));clear hb5
    go_wp2
    go_ret
    exact ⟨au (by rw [HI.out]), HB5.out⟩
theorem refGcd_any (s t : ByteArray) (w : World) (hs : s.size ≤ 2000) (ht : t.size ≤ 2000)  : Calls Tryz.prog 80 #[.string s, .string t] w fun e w' => e = .returned (.string ⟨(on2 gcdO s.data.toList t.data.toList).toArray⟩) ∧ Below w.heap.size w w' := by
 by_cases hp : isI s.data.toList = true
 · by_cases hq : isI t.data.toList = true
   · obtain ⟨p, hp1, hp2⟩ := isI_true hp;obtain ⟨q, hq1, hq2⟩ := isI_true hq;exact refGcd_both s t w hs ht hp1 hq1 hp2 hq2
   · exact refGcd_right s t w hs ht hp (by simpa using hq)
 · exact refGcd_left s t w hs ht (by simpa using hp)
end
end Go.Proofs.YteoklapcifonaaaGreatDoor
namespace Go.Proofs.YteoklapcifonaaaGreatDoor
open Go.RowKit Nmx
open Rf
theorem tx_nonempty (q : Rat) : (TX q).toList.isEmpty = false ∧ ((TX q).toList == []) = false := by
 have h := textQ_ne q;rw [ByteArray.toList_eq, bQ]
 constructor
 · cases ht : aK q with
   | nil => exact absurd ht h
   | cons _ _ => rfl
 · simpa using h
theorem bg (q : Rat) : ((TX q).toList == [48]) = decide (q.num = 0) := by
 have := tx_eq q 0;rw [tx_int_zero] at this;rw [ByteArray.toList_eq (bs := ⟨#[48]⟩)] at this;rw [show ((TX q).toList == [48]) = decide (q = 0) from this];exact decide_eq_decide.2 num_zero.symm
section
set_option maxRecDepth 100000
set_option maxHeartbeats 4000000
theorem refRem_none (s t : ByteArray) (w : World) (hs : s.size ≤ 2000) (ht : t.size ≤ 2000) (h1 : on2 quoO s.data.toList t.data.toList = []) (h2 : on2 remO s.data.toList t.data.toList = []) : Calls Tryz.prog 136 #[.string s, .string t] w fun e w' => e = .returned (.string ⟨(on2 remO s.data.toList t.data.toList).toArray⟩) ∧ Below w.heap.size w w' := by
    have hq := fun W => refQuo_any s t W hs ht
    rw [h1] at hq;have HI := hid h2;clear h1 h2
    go_enter Tryz.func136, Tryz.ntmps136
    go_wp2_with fail
    refine (hq _).mono ?_;rintro e w1 ⟨rfl, hb1⟩;have HB1 := hid hb1;clear hb1
    go_wp2
    go_ret
    exact ⟨au (by rw [HI.out]), HB1.out⟩
theorem refRem_both (s t : ByteArray) (w : World) (hs : s.size ≤ 2000) (ht : t.size ≤ 2000) {p q : Rat} (hp : ap s.data.toList = some p) (hq : ap t.data.toList = some q) (hpd : p.den = 1) (hqd : q.den = 1) (h0 : q.num ≠ 0) : Calls Tryz.prog 136 #[.string s, .string t] w fun e w' => e = .returned (.string ⟨(on2 remO s.data.toList t.data.toList).toArray⟩) ∧ Below w.heap.size w w' := by
    have hq1 := fun W => refQuo_any s t W hs ht
    have HQ : on2 quoO s.data.toList t.data.toList = aK ((p.num / q.num : Int) : Rat) := by rw [bI hp hq]; unfold quoO; rw [if_pos ⟨hpd, hqd, h0⟩]; rfl
    rw [HQ] at hq1;have HI : Hid ((⟨(on2 remO s.data.toList t.data.toList).toArray⟩ : ByteArray) = TX ((p.num % q.num : Int) : Rat)) := hid (by rw [bI hp hq]; unfold remO; rw [if_pos ⟨hpd, hqd, h0⟩]; rfl);clear HQ;have dp : DS 2000 p := (ds_of hp).mono (by rw [size_data]; omega);have dq : DS 2000 q := (ds_of hq).mono (by rw [size_data]; omega);obtain rfl := tx_of hp;obtain rfl := tx_of hq;have dr : DS 2000 (((p.num / q.num : Int)) : Rat) := DS.int (Nat.lt_of_le_of_lt (Int.natAbs_ediv_le_natAbs _ _) dp.1);have h2 := fun W => refMulT dq dr (by omega) (by omega) W
    have h3 := fun W => refSubT dp (dq.mul dr) (by omega) (by omega) W
    have HE : p - q * ((p.num / q.num : Int) : Rat) = ((p.num % q.num : Int) : Rat) := by
     have h4 := rem_eq p.num q.num;rw [← rat_int hpd, ← rat_int hqd] at h4;exact h4
    rw [HE] at h3;obtain ⟨e1, e2⟩ := tx_nonempty ((p.num / q.num : Int) : Rat);unfold aT at *;have hq2 : ∀ W, Calls Tryz.prog 163 #[.string (TX p), .string (TX q)] W fun e w' => e = .returned (.string (TX ((p.num / q.num : Int) : Rat))) ∧ Below W.heap.size W w' := hq1
    clear hp hq dp dq hs ht hpd hqd h0 dr HE hq1;generalize TX ((p.num / q.num : Int) : Rat) = tr at *;generalize TX ((p.num % q.num : Int) : Rat) = tm at *;generalize TX (q * ((p.num / q.num : Int) : Rat)) = tx at *;generalize TX p = tp at *;generalize TX q = tq at *
    go_enter Tryz.func136, Tryz.ntmps136
    go_wp2_with fail
    refine (hq2 _).mono ?_;rintro e w1 ⟨rfl, hb1⟩;have HB1 := hid hb1;clear hb1
    go_wp2_with fail
    refine (hq2 _).mono ?_;rintro e w2 ⟨rfl, hb2⟩;have HB2 := hid (HB1.out.trans (hb2.mono HB1.out.size));clear hb2
    go_wp2_with fail
    refine (h2 _).mono ?_;rintro e w3 ⟨rfl, hb3⟩;have HB3 := hid (HB2.out.trans (hb3.mono HB2.out.size));clear hb3
    go_wp2_with fail
    refine (h3 _).mono ?_;rintro e w4 ⟨rfl, hb4⟩;have HB4 := hid (HB3.out.trans (hb4.mono HB3.out.size));clear hb4
    go_wp2
    go_ret
    exact ⟨au (by rw [HI.out]), HB4.out⟩
theorem refRem_any (s t : ByteArray) (w : World) (hs : s.size ≤ 2000) (ht : t.size ≤ 2000) : Calls Tryz.prog 136 #[.string s, .string t] w fun e w' => e = .returned (.string ⟨(on2 remO s.data.toList t.data.toList).toArray⟩) ∧ Below w.heap.size w w' := by
 by_cases h : ∃ p q, ap s.data.toList = some p ∧ ap t.data.toList = some q ∧ p.den = 1 ∧ q.den = 1 ∧ q.num ≠ 0
 · obtain ⟨p, q, hp, hq, h1, h2, h3⟩ := h;exact refRem_both s t w hs ht hp hq h1 h2 h3
 · have key : ∀ f : Rat → Rat → Option Rat, (∀ x y : Rat, ¬ (x.den = 1 ∧ y.den = 1 ∧ y.num ≠ 0) → f x y = none) → on2 f s.data.toList t.data.toList = [] := by
     intro f hf;cases ha : ap s.data.toList with
     | none => exact on2_left ha
     | some p =>
       cases hb : ap t.data.toList with
       | none => exact on2_right hb
       | some q =>
         rw [bI ha hb, hf p q fun h2 => h ⟨p, q, ha, hb, h2.1, h2.2.1, h2.2.2⟩]; rfl
   exact refRem_none s t w hs ht (key quoO fun x y h2 => by unfold quoO; rw [if_neg h2]) (key remO fun x y h2 => by unfold remO; rw [if_neg h2])
theorem refLcm_za (s t : ByteArray) (w : World) (hs : s.size ≤ 2000) (ht : t.size ≤ 2000) {p q : Rat} (hp : ap s.data.toList = some p) (hq : ap t.data.toList = some q) (hpd : p.den = 1) (hqd : q.den = 1) (h0 : p.num = 0) : Calls Tryz.prog 78 #[.string s, .string t] w fun e w' => e = .returned (.string ⟨(on2 lcmO s.data.toList t.data.toList).toArray⟩) ∧ Below w.heap.size w w' := by
    have HI : Hid ((⟨(on2 lcmO s.data.toList t.data.toList).toArray⟩ : ByteArray) = ⟨#[48]⟩) := hid (by rw [bI hp hq]; unfold lcmO; rw [if_pos ⟨hpd, hqd⟩]; unfold lcI; rw [if_pos (.inl h0)]; exact tx_int_zero);have dp : DS 2000 p := (ds_of hp).mono (by rw [size_data]; omega);have dq : DS 2000 q := (ds_of hq).mono (by rw [size_data]; omega);obtain rfl := tx_of hp;obtain rfl := tx_of hq;have h1 := fun W => bA dp (by omega) W
    have h2 := fun W => bA dq (by omega) W
    rw [decide_eq_true hpd] at h1;rw [decide_eq_true hqd] at h2;have hz1 := bg p;have hz2 := bg q;rw [decide_eq_true h0] at hz1;clear hp hq dp dq hs ht hpd hqd h0 hz2;generalize TX p = tp at *;generalize TX q = tq at *
    go_enter Tryz.func78, Tryz.ntmps78
    go_wp2_with fail
    refine (h1 _).mono ?_;rintro e w1 ⟨rfl, hb1⟩;have HB1 := hid hb1;clear hb1
    go_wp2_with fail
    refine (h2 _).mono ?_;rintro e w2 ⟨rfl, hb2⟩;have HB2 := hid (HB1.out.trans (hb2.mono HB1.out.size));clear hb2
    go_wp2
    go_ret
    exact ⟨au (by rw [HI.out]), HB2.out⟩
theorem refLcm_zb (s t : ByteArray) (w : World) (hs : s.size ≤ 2000) (ht : t.size ≤ 2000) {p q : Rat} (hp : ap s.data.toList = some p) (hq : ap t.data.toList = some q) (hpd : p.den = 1) (hqd : q.den = 1) (h1 : p.num ≠ 0) (h0 : q.num = 0) : Calls Tryz.prog 78 #[.string s, .string t] w fun e w' => e = .returned (.string ⟨(on2 lcmO s.data.toList t.data.toList).toArray⟩) ∧ Below w.heap.size w w' := by
    have HI : Hid ((⟨(on2 lcmO s.data.toList t.data.toList).toArray⟩ : ByteArray) = ⟨#[48]⟩) := hid (by rw [bI hp hq]; unfold lcmO; rw [if_pos ⟨hpd, hqd⟩]; unfold lcI; rw [if_pos (.inr h0)]; exact tx_int_zero);have h10 := h1;clear h1;have dp : DS 2000 p := (ds_of hp).mono (by rw [size_data]; omega);have dq : DS 2000 q := (ds_of hq).mono (by rw [size_data]; omega);obtain rfl := tx_of hp;obtain rfl := tx_of hq;have h1 := fun W => bA dp (by omega) W
    have h2 := fun W => bA dq (by omega) W
    rw [decide_eq_true hpd] at h1;rw [decide_eq_true hqd] at h2;have hz1 := bg p;have hz2 := bg q;rw [decide_eq_true h0] at hz2;rw [decide_eq_false h10] at hz1;clear hp hq dp dq hs ht hpd hqd h0 h10;generalize TX p = tp at *;generalize TX q = tq at *
    go_enter Tryz.func78, Tryz.ntmps78
    go_wp2_with fail
    refine (h1 _).mono ?_;rintro e w1 ⟨rfl, hb1⟩;have HB1 := hid hb1;clear hb1
    go_wp2_with fail
    refine (h2 _).mono ?_;rintro e w2 ⟨rfl, hb2⟩;have HB2 := hid (HB1.out.trans (hb2.mono HB1.out.size));clear hb2
    go_wp2
    go_ret
    exact ⟨au (by rw [HI.out]), HB2.out⟩
theorem refLcm_both (s t : ByteArray) (w : World) (hs : s.size ≤ 2000) (ht : t.size ≤ 2000) {p q : Rat} (hp : ap s.data.toList = some p) (hq : ap t.data.toList = some q) (hpd : p.den = 1) (hqd : q.den = 1) (hp0 : p.num ≠ 0) (hq0 : q.num ≠ 0) : Calls Tryz.prog 78 #[.string s, .string t] w fun e w' => e = .returned (.string ⟨(on2 lcmO s.data.toList t.data.toList).toArray⟩) ∧ Below w.heap.size w w' := by
    have hg1 := fun W => refGcd_any s t W hs ht
    have HQ : on2 gcdO s.data.toList t.data.toList = aK ((Int.gcd p.num q.num : Int) : Rat) := by rw [bI hp hq]; unfold gcdO; rw [if_pos ⟨hpd, hqd⟩]; rfl
    rw [HQ] at hg1;have HI : Hid ((⟨(on2 lcmO s.data.toList t.data.toList).toArray⟩ : ByteArray) = TX (lcI p.num q.num : Rat)) := hid (by rw [bI hp hq]; unfold lcmO; rw [if_pos ⟨hpd, hqd⟩]; rfl);clear HQ;have dp : DS 2000 p := (ds_of hp).mono (by rw [size_data]; omega);have dq : DS 2000 q := (ds_of hq).mono (by rw [size_data]; omega);obtain rfl := tx_of hp;obtain rfl := tx_of hq;have h1 := fun W => bA dp (by omega) W
    have h2 := fun W => bA dq (by omega) W
    rw [decide_eq_true hpd] at h1;rw [decide_eq_true hqd] at h2;have hz1 := bg p;have hz2 := bg q;rw [decide_eq_false hp0] at hz1;rw [decide_eq_false hq0] at hz2;have hg : 0 < Int.gcd p.num q.num := Int.gcd_pos_iff.2 (.inl hp0)
    have dg : DS 2000 ((Int.gcd p.num q.num : Int) : Rat) := DS.int (by
     rw [Int.natAbs_natCast]
     exact Nat.lt_of_le_of_lt (Nat.gcd_le_left _ (by omega)) dp.1)
    have hg2 : ∀ W, Calls Tryz.prog 80 #[.string (TX p), .string (TX q)] W fun e w' => e = .returned (.string (TX ((Int.gcd p.num q.num : Int) : Rat))) ∧ Below W.heap.size W w' := hg1
    have h3 := fun W => refMulT dp dq (by omega) (by omega) W
    have h4 := fun W => refDivT (dp.mul dq) dg (by omega) (by omega) (by rw [Rat.num_intCast]; omega) W
    have dd := (dp.mul dq).div dg (by rw [Rat.num_intCast]; omega);have h5 := fun W => refAbsT dd (by omega) W
    have HE : (if (p * q / ((Int.gcd p.num q.num : Int) : Rat)).num < 0 then -(p * q / ((Int.gcd p.num q.num : Int) : Rat)) else (p * q / ((Int.gcd p.num q.num : Int) : Rat))) = (lcI p.num q.num : Rat) := by
     obtain ⟨l1, l2⟩ := lcm_eq hp0 hq0;rw [← rat_int hpd, ← rat_int hqd] at l1;rw [l1, abs_int (Rat.den_intCast _), Rat.num_intCast, l2]
    rw [HE] at h5;unfold aT at *;clear hp hq dp dq hs ht hpd hqd hp0 hq0 hg dg hg1 dd HE;generalize TX (lcI p.num q.num : Rat) = tl at *;generalize TX (p * q / ((Int.gcd p.num q.num : Int) : Rat)) = td at *;generalize TX ((Int.gcd p.num q.num : Int) : Rat) = tg at *;generalize TX (p * q) = tm at *;generalize TX p = tp at *;generalize TX q = tq at *
    go_enter Tryz.func78, Tryz.ntmps78
    go_wp2_with fail
    refine (h1 _).mono ?_;rintro e w1 ⟨rfl, hb1⟩;have HB1 := hid hb1;clear hb1
    go_wp2_with fail
    refine (h2 _).mono ?_;rintro e w2 ⟨rfl, hb2⟩;have HB2 := hid (HB1.out.trans (hb2.mono HB1.out.size));clear hb2
    go_wp2_with fail
    refine (h3 _).mono ?_;rintro e w3 ⟨rfl, hb3⟩;have HB3 := hid (HB2.out.trans (hb3.mono HB2.out.size));clear hb3
    go_wp2_with fail
    refine (hg2 _).mono ?_;rintro e w4 ⟨rfl, hb4⟩;have HB4 := hid (HB3.out.trans (hb4.mono HB3.out.size));clear hb4
    go_wp2_with fail
    refine (h4 _).mono ?_;rintro e w5 ⟨rfl, hb5⟩;have HB5 := hid (HB4.out.trans (hb5.mono HB4.out.size));clear hb5
    go_wp2_with fail
    refine (h5 _).mono ?_;rintro e w6 ⟨rfl, hb6⟩;have HB6 := hid (HB5.out.trans (hb6.mono HB5.out.size));clear hb6
    go_wp2
    go_ret
    exact ⟨au (by rw [HI.out]), HB6.out⟩
theorem refLcm_any (s t : ByteArray) (w : World) (hs : s.size ≤ 2000) (ht : t.size ≤ 2000)  : Calls Tryz.prog 78 #[.string s, .string t] w fun e w' => e = .returned (.string ⟨(on2 lcmO s.data.toList t.data.toList).toArray⟩) ∧ Below w.heap.size w w' := by
 by_cases hp : isI s.data.toList = true
 · by_cases hq : isI t.data.toList = true
   · obtain ⟨p, hp1, hp2⟩ := isI_true hp;obtain ⟨q, hq1, hq2⟩ := isI_true hq
     by_cases h0 : p.num = 0
     · exact refLcm_za s t w hs ht hp1 hq1 hp2 hq2 h0
     · by_cases hn : q.num = 0
       · exact refLcm_zb s t w hs ht hp1 hq1 hp2 hq2 h0 hn
       · exact refLcm_both s t w hs ht hp1 hq1 hp2 hq2 h0 hn
   · exact refLcm_right s t w hs ht hp (by simpa using hq)
 · exact refLcm_left s t w hs ht (by simpa using hp)
end
end Go.Proofs.YteoklapcifonaaaGreatDoor

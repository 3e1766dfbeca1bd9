/- The reference's parse at every text. -/
import Derived.Test.YteoklapcifonaaaGreatDoorNRC
open Go.Lib (hid)
namespace Go.Proofs.YteoklapcifonaaaGreatDoor
open Go.RowKit Nmx
open Rf
section
set_option maxRecDepth 100000
set_option maxHeartbeats 4000000
theorem refParse_empty (s : ByteArray) (w : World) (h0 : s.size = 0) : Calls Tryz.prog 57 #[.string s] w (RParse s.data.toList w) := by
 obtain rfl : s = ⟨#[]⟩ := ByteArray.size_eq_zero_iff.1 h0;have HP0 := hid (PX.new w false ⟨#[49]⟩ _ rfl);have HQ : Hid (ap (⟨#[]⟩ : ByteArray).data.toList = none) := hid ratF_nil;have hdn := fun W => aG ⟨#[]⟩ W (by decide)
 have e1 : digF (⟨#[]⟩ : ByteArray).data.toList = false := rfl;rw [e1] at hdn;clear h0 e1
 go_enter Tryz.func57, Tryz.ntmps57
 go_wp2
 go_loopg [5, 6] 0 (fun g s5 i wr => s5 = .string ⟨#[]⟩ ∧ i = .int .i64 0 ∧ PX w wr false ⟨#[]⟩ ⟨#[49]⟩)
 case atStart => exact ⟨rfl, rfl, HP0.out⟩
 case round =>
  obtain ⟨rfl, rfl, hrel⟩ := hrel;have HP := hid hrel;obtain ⟨c0, c1, c2⟩ := hrel.cells;obtain ⟨⟨r0, r1, r2⟩, fr⟩ := hrel.rcells;have f1 := hrel.fz 1;clear hrel HP0
  go_wp2_with fail
  have HP1 := hid (HP.out.set 1 (.string ⟨#[]⟩) rfl);clear c0 c1 c2 r0 r1 r2 fr f1 HP;generalize wr.setCell ⟨w.heap.size + 1, 1, none⟩ (.string ⟨#[]⟩) = w0 at *;obtain ⟨k0, k1, k2⟩ := HP1.out.cells;obtain ⟨⟨r0, r1, r2⟩, fr⟩ := HP1.out.rcells
  go_quiet ((go_at_call 103; exact Calls.quiet_of_same (hdn _)))
  go_wp2
  exact end_r3b Tryz.results57 rfl rfl rfl (HP1.out.drewN _) (fun w3 h => ⟨by rw [HQ.out]; rfl, h⟩)
/-- parse at every text -/
theorem refParse_any (s : ByteArray) (w : World) (hs : s.size ≤ 90000) : Calls Tryz.prog 57 #[.string s] w (RParse s.data.toList w) := by
 rcases Nat.eq_zero_or_pos s.size with h0 | h0
 · exact refParse_empty s w h0
 · exact refParse_pos s w hs h0
end
end Go.Proofs.YteoklapcifonaaaGreatDoor
namespace Go.Proofs.YteoklapcifonaaaGreatDoor
open Go.RowKit Nmx
open Rf
/-- a number's parts as the reference keeps them -/
def PS (q : Rat) (neg : Bool) (nb db : ByteArray) : Prop := neg = decide (q.num < 0) ∧ nb.data.toList = af q.num.natAbs ∧ db.data.toList = af q.den
theorem PS.val {q : Rat} {neg : Bool} {nb db : ByteArray} (h : PS q neg nb db) : ratV q = .agg #[.bool neg, .string nb, .string db] := by
 obtain ⟨h1, h2, h3⟩ := h;unfold ratV;rw [h1, ba_eq nb _ h2, ba_eq db _ h3]
theorem PS.of (q : Rat) : PS q (decide (q.num < 0)) ⟨(af q.num.natAbs).toArray⟩ ⟨(af q.den).toArray⟩ := ⟨rfl, rfl, rfl⟩
theorem PS.neg1 {q : Rat} {nb db : ByteArray} (h : PS q true nb db) : PS (-q) false nb db := by
 obtain ⟨h1, h2, h3⟩ := h;have h4 : q.num < 0 := by simpa using h1.symm
 exact ⟨(decide_eq_false (show ¬ -q.num < 0 by omega)).symm, by show _ = af (-q.num).natAbs; rw [Int.natAbs_neg]; exact h2, h3⟩
theorem PS.neg0 {q : Rat} {nb db : ByteArray} (h : PS q false nb db) (h0 : q.num = 0) : PS (-q) false nb db := by
 obtain ⟨h1, h2, h3⟩ := h;exact ⟨(decide_eq_false (show ¬ -q.num < 0 by omega)).symm, by show _ = af (-q.num).natAbs; rw [Int.natAbs_neg]; exact h2, h3⟩
theorem PS.neg2 {q : Rat} {nb db : ByteArray} (h : PS q false nb db) (h0 : q.num ≠ 0) : PS (-q) true nb db := by
 obtain ⟨h1, h2, h3⟩ := h;have h4 : ¬ q.num < 0 := by simpa using h1.symm
 exact ⟨(decide_eq_true (show -q.num < 0 by omega)).symm, by show _ = af (-q.num).natAbs; rw [Int.natAbs_neg]; exact h2, h3⟩
theorem PS.zero {q : Rat} {neg : Bool} {nb db : ByteArray} (h : PS q neg nb db) : (nb.toList == [48]) = decide (q.num = 0) := by
 rw [ByteArray.toList_eq, h.2.1, Bool.eq_iff_iff, beq_iff_eq, decN_eq_zero, decide_eq_true_eq]; omega
theorem PS.one {q : Rat} {neg : Bool} {nb db : ByteArray} (h : PS q neg nb db) : (db.toList == [49]) = decide (q.den = 1) := by
 rw [ByteArray.toList_eq, h.2.2, Bool.eq_iff_iff, beq_iff_eq, decN_eq_one, decide_eq_true_eq]
theorem textOf {q : Rat} {neg : Bool} {nb db : ByteArray} (h : PS q neg nb db) (h1 : nb.size ≤ 1000000) (h2 : db.size ≤ 1000000) (W : World) :
    Calls Tryz.prog 60 #[.agg #[.bool neg, .string nb, .string db]] W fun e w' => e = .returned (.string ⟨(aK q).toArray⟩) ∧ Below W.heap.size W w' := by
 rw [← h.val];exact refText_any q W (by rw [← h.2.1, size_data]; exact h1) (by rw [← h.2.2, size_data]; exact h2)
theorem aH (s : ByteArray) {q : Rat} (hs : s.size ≤ 90000) (hq : ap s.data.toList = some q) : ∃ neg nb db, PS q neg nb db ∧ nb.size ≤ s.size ∧ db.size ≤ s.size ∧ ∀ W, Calls Tryz.prog 57 #[.string s] W fun e w' => e = .returned (.tuple #[.agg #[.bool neg, .string nb, .string db], .bool true]) ∧ Below W.heap.size W w' := by
 have hl := congrArg List.length (ratF_some hq);rw [size_data] at hl;have h1 := decI_ge q.num;have hp := decN_len_pos q.num.natAbs;refine ⟨_, _, _, PS.of q, ?_, ?_, fun W => ?_⟩
 · rw [sz_txt, ← hl]; unfold aK; rw [List.length_append]; omega
 · rw [sz_txt, ← hl]; unfold aK; rw [List.length_append]
   by_cases h : q.den = 1
   · rw [h, decN_one]
     simp; omega
   · rw [if_neg h, List.length_cons]; omega
 · refine (refParse_any s W hs).mono fun e w' h => ?_
   unfold RParse at h;rw [hq] at h;exact h
theorem bS (s : ByteArray) (hs : s.size ≤ 90000) (hq : ap s.data.toList = none) (W : World) : Calls Tryz.prog 57 #[.string s] W fun e w' => e = .returned (.tuple #[.agg #[.bool false, .string ⟨#[]⟩, .string ⟨#[]⟩], .bool false]) ∧ Below W.heap.size W w' := by
 refine (refParse_any s W hs).mono fun e w' h => ?_
 unfold RParse at h;rw [hq] at h;exact h
def isI (l : List UInt8) : Bool := match ap l with | some q => decide (q.den = 1) | none => false
def negO (x : Rat) : Option Rat := some (-x)
def absO (x : Rat) : Option Rat := some (if x.num < 0 then -x else x)
def sgO (l : List UInt8) : Int := bc ((ap l).getD 0).num
def idO (x : Rat) : Option Rat := some x
section
set_option maxRecDepth 100000
set_option maxHeartbeats 4000000
theorem refValid_any (s : ByteArray) (w : World) (hs : s.size ≤ 90000) : Calls Tryz.prog 72 #[.string s] w fun e w' => e = .returned (.bool (ap s.data.toList).isSome) ∧ Below w.heap.size w w' := by
 cases hq : ap s.data.toList with
 | none =>
   have hp := bS s hs hq w;clear hq
   go_enter Tryz.func72, Tryz.ntmps72
   go_wp2_with fail
   refine hp.mono ?_;rintro e w1 ⟨rfl, hb1⟩;have HB := hid hb1;clear hb1 hp
   go_wp2
   go_ret
   exact ⟨rfl, HB.out.alloc HB.out.size _⟩
 | some q =>
   obtain ⟨neg, nb, db, -, -, -, hp⟩ := aH s hs hq;have hp := hp w;clear hq
   go_enter Tryz.func72, Tryz.ntmps72
   go_wp2_with fail
   refine hp.mono ?_;rintro e w1 ⟨rfl, hb1⟩;have HB := hid hb1;clear hb1 hp
   go_wp2
   go_ret
   exact ⟨rfl, HB.out.alloc HB.out.size _⟩
theorem bH (s : ByteArray) (w : World) (hs : s.size ≤ 90000) : Calls Tryz.prog 41 #[.string s] w fun e w' => e = .returned (.bool (isI s.data.toList)) ∧ Below w.heap.size w w' := by
 cases hq : ap s.data.toList with
 | none =>
   have hp := bS s hs hq w;have HI : Hid (isI s.data.toList = false) := hid (by unfold isI; rw [hq]);clear hq
   go_enter Tryz.func41, Tryz.ntmps41
   go_wp2_with fail
   refine hp.mono ?_;rintro e w1 ⟨rfl, hb1⟩;have HB := hid hb1;clear hb1 hp
   go_wp2
   go_ret
   exact ⟨aX HI.out.symm, HB.out.alloc HB.out.size _⟩
 | some q =>
   obtain ⟨neg, nb, db, hps, -, -, hp⟩ := aH s hs hq;have hp := hp w;have hd := hps.one;have HI : Hid (isI s.data.toList = decide (q.den = 1)) := hid (by unfold isI; rw [hq]);clear hq hps;generalize decide (q.den = 1) = bb at *
   go_enter Tryz.func41, Tryz.ntmps41
   go_wp2_with fail
   refine hp.mono ?_;rintro e w1 ⟨rfl, hb1⟩;have HB := hid hb1;clear hb1 hp
   go_wp2
   go_ret
   exact ⟨aX HI.out.symm, HB.out.alloc HB.out.size _⟩
theorem refNum0_any (s : ByteArray) (w : World) (hs : s.size ≤ 90000) : Calls Tryz.prog 165 #[.string s] w fun e w' => e = .returned (.string ⟨(on1 idO s.data.toList).toArray⟩) ∧ Below w.heap.size w w' := by
 have hv := refValid_any s w hs;cases hq : ap s.data.toList with
 | none =>
   rw [hq] at hv;have HI := hid (on1_none (f := idO) hq);clear hq
   go_enter Tryz.func165, Tryz.ntmps165
   go_wp2_with fail
   refine hv.mono ?_;rintro e w1 ⟨rfl, hb1⟩;have HB := hid hb1;clear hb1 hv
   go_wp2
   go_ret
   exact ⟨au (by rw [HI.out]), HB.out⟩
 | some q =>
   rw [hq] at hv;have HI : Hid (s = ⟨(on1 idO s.data.toList).toArray⟩) := hid (ba_eq _ _ (by rw [on1_some hq]; exact (ratF_some hq).symm));clear hq
   go_enter Tryz.func165, Tryz.ntmps165
   go_wp2_with fail
   refine hv.mono ?_;rintro e w1 ⟨rfl, hb1⟩;have HB := hid hb1;clear hb1 hv
   go_wp2
   go_ret
   exact ⟨au HI.out, HB.out⟩
theorem refSign_any (s : ByteArray) (w : World) (hs : s.size ≤ 90000) : Calls Tryz.prog 75 #[.string s] w fun e w' => e = .returned (.int .i64 (sgO s.data.toList)) ∧ Below w.heap.size w w' := by
 cases hq : ap s.data.toList with
 | none =>
   have hp := bS s hs hq w;have HI : Hid (sgO s.data.toList = 0) := hid (by unfold sgO; rw [hq]; rfl);clear hq
   go_enter Tryz.func75, Tryz.ntmps75
   go_wp2_with fail
   refine hp.mono ?_;rintro e w1 ⟨rfl, hb1⟩;have HB := hid hb1;clear hb1 hp
   go_wp2
   go_ret
   exact ⟨bX HI.out.symm, HB.out.alloc HB.out.size _⟩
 | some q =>
   obtain ⟨neg, nb, db, hps, -, -, hp⟩ := aH s hs hq;have hp := hp w;have hz := hps.zero;have HG : Hid (neg = decide (q.num < 0)) := hid hps.1;have HI : Hid (sgO s.data.toList = bc q.num) := hid (by unfold sgO; rw [hq]; rfl);clear hq hps
   by_cases h0 : q.num = 0
   · rw [decide_eq_true h0] at hz;have HS : Hid (bc q.num = 0) := hid (by rw [h0]; rfl);clear h0
     go_enter Tryz.func75, Tryz.ntmps75
     go_wp2_with fail
     refine hp.mono ?_;rintro e w1 ⟨rfl, hb1⟩;have HB := hid hb1;clear hb1 hp
     go_wp2
     go_ret
     exact ⟨bX (by rw [HI.out, HS.out]), HB.out.alloc HB.out.size _⟩
   · rw [decide_eq_false h0] at hz;cases neg
     · have HS : Hid (bc q.num = 1) := hid (by have := HG.out; have h1 : ¬ q.num < 0 := (by simpa using this.symm); unfold bc; rw [if_neg h1, if_pos (by omega)]);clear h0
       go_enter Tryz.func75, Tryz.ntmps75
       go_wp2_with fail
       refine hp.mono ?_;rintro e w1 ⟨rfl, hb1⟩;have HB := hid hb1;clear hb1 hp
       go_wp2
       go_ret
       exact ⟨bX (by rw [HI.out, HS.out]), HB.out.alloc HB.out.size _⟩
     · have HS : Hid (bc q.num = -1) := hid (by have := HG.out; have h1 : q.num < 0 := (by simpa using this.symm); unfold bc; rw [if_pos h1]);clear h0
       go_enter Tryz.func75, Tryz.ntmps75
       go_wp2_with fail
       refine hp.mono ?_;rintro e w1 ⟨rfl, hb1⟩;have HB := hid hb1;clear hb1 hp
       go_wp2
       go_ret
       exact ⟨bX (by rw [HI.out, HS.out]), HB.out.alloc HB.out.size _⟩
end
end Go.Proofs.YteoklapcifonaaaGreatDoor
namespace Go.Proofs.YteoklapcifonaaaGreatDoor
open Go.RowKit Nmx
open Rf
section
set_option maxRecDepth 100000
set_option maxHeartbeats 4000000
theorem refNeg_any (s : ByteArray) (w : World) (hs : s.size ≤ 90000) : Calls Tryz.prog 82 #[.string s] w fun e w' => e = .returned (.string ⟨(on1 negO s.data.toList).toArray⟩) ∧ Below w.heap.size w w' := by
 cases hq : ap s.data.toList with
 | none =>
   have hp := bS s hs hq w;have HI := hid (on1_none (f := negO) hq);clear hq
   go_enter Tryz.func82, Tryz.ntmps82
   go_wp2_with fail
   refine hp.mono ?_;rintro e w1 ⟨rfl, hb1⟩;have HB := hid hb1;clear hb1 hp
   go_wp2
   go_ret
   exact ⟨au (by rw [HI.out]), HB.out.alloc HB.out.size _⟩
 | some q =>
   obtain ⟨neg, nb, db, hps, hz1, hz2, hp⟩ := aH s hs hq;have hp := hp w;have hz := hps.zero;have HI : Hid (on1 negO s.data.toList = aK (-q)) := hid (by rw [on1_some hq]; rfl);clear hq;cases neg
   · by_cases h0 : q.num = 0
     · rw [decide_eq_true h0] at hz;have htx := fun W => textOf (hps.neg0 h0) (by omega) (by omega) W
       clear hps;clear h0
       go_enter Tryz.func82, Tryz.ntmps82
       go_wp2_with fail
       refine hp.mono ?_;rintro e w1 ⟨rfl, hb1⟩;have HB := hid (hb1.alloc hb1.size (.cells #[.bool false, .string nb, .string db] 90));clear hb1 hp
       go_wp2_with fail
       refine (htx _).mono ?_;rintro e w2 ⟨rfl, hb2⟩;have HB2 := hid (HB.out.trans (hb2.mono HB.out.size));clear hb2 htx
       go_wp2
       go_ret
       exact ⟨au (by rw [HI.out]), HB2.out⟩
     · rw [decide_eq_false h0] at hz;have htx := fun W => textOf (hps.neg2 h0) (by omega) (by omega) W
       clear hps;clear h0
       go_enter Tryz.func82, Tryz.ntmps82
       go_wp2_with fail
       refine hp.mono ?_;rintro e w1 ⟨rfl, hb1⟩;have HB := hid (hb1.alloc hb1.size (.cells #[.bool false, .string nb, .string db] 90));clear hb1 hp
       go_wp2_with fail
       refine (htx _).mono ?_;rintro e w2 ⟨rfl, hb2⟩;have HB2 := hid (HB.out.trans (hb2.mono HB.out.size));clear hb2 htx
       go_wp2
       go_ret
       exact ⟨au (by rw [HI.out]), HB2.out⟩
   · clear hz;have htx := fun W => textOf hps.neg1 (by omega) (by omega) W
     clear hps
     go_enter Tryz.func82, Tryz.ntmps82
     go_wp2_with fail
     refine hp.mono ?_;rintro e w1 ⟨rfl, hb1⟩;have HB := hid (hb1.alloc hb1.size (.cells #[.bool true, .string nb, .string db] 90));clear hb1 hp
     go_wp2_with fail
     refine (htx _).mono ?_;rintro e w2 ⟨rfl, hb2⟩;have HB2 := hid (HB.out.trans (hb2.mono HB.out.size));clear hb2 htx
     go_wp2
     go_ret
     exact ⟨au (by rw [HI.out]), HB2.out⟩
theorem refAbs_any (s : ByteArray) (w : World) (hs : s.size ≤ 90000) : Calls Tryz.prog 137 #[.string s] w fun e w' => e = .returned (.string ⟨(on1 absO s.data.toList).toArray⟩) ∧ Below w.heap.size w w' := by
 have hsg := refSign_any s w hs;have hng := fun W => refNeg_any s W hs
 have hn0 := fun W => refNum0_any s W hs
 by_cases hlt : sgO s.data.toList < 0
 · have HI : Hid (on1 absO s.data.toList = on1 negO s.data.toList) := hid (by
     unfold sgO at hlt;cases hq : ap s.data.toList with
     | none => rw [on1_none hq, on1_none hq]
     | some q =>
       rw [hq] at hlt
       have h1 : q.num < 0 := by
        have h2 : bc q.num < 0 := hlt;unfold bc at h2
        split at h2
        · assumption
        · split at h2 <;> omega
       rw [on1_some hq, on1_some hq]; unfold absO negO; rw [if_pos h1])
   generalize sgO s.data.toList = z at *
   go_enter Tryz.func137, Tryz.ntmps137
   go_wp2_with fail
   refine hsg.mono ?_;rintro e w1 ⟨rfl, hb1⟩;have HB := hid hb1;clear hb1 hsg
   go_wp2_with fail
   refine (hng _).mono ?_;rintro e w2 ⟨rfl, hb2⟩;have HB2 := hid (HB.out.trans (hb2.mono HB.out.size));clear hb2 hng
   go_wp2
   go_ret
   exact ⟨au (by rw [HI.out]), HB2.out⟩
 · have HI : Hid (on1 absO s.data.toList = on1 idO s.data.toList) := hid (by
     unfold sgO at hlt;cases hq : ap s.data.toList with
     | none => rw [on1_none hq, on1_none hq]
     | some q =>
       rw [hq] at hlt
       have h1 : ¬ q.num < 0 := by
        intro hn;apply hlt;show bc q.num < 0;unfold bc; rw [if_pos hn]; omega
       rw [on1_some hq, on1_some hq]; unfold absO idO; rw [if_neg h1])
   generalize sgO s.data.toList = z at *
   go_enter Tryz.func137, Tryz.ntmps137
   go_wp2_with fail
   refine hsg.mono ?_;rintro e w1 ⟨rfl, hb1⟩;have HB := hid hb1;clear hb1 hsg
   go_wp2_with fail
   refine (hn0 _).mono ?_;rintro e w2 ⟨rfl, hb2⟩;have HB2 := hid (HB.out.trans (hb2.mono HB.out.size));clear hb2 hn0
   go_wp2
   go_ret
   exact ⟨au (by rw [HI.out]), HB2.out⟩
end
end Go.Proofs.YteoklapcifonaaaGreatDoor

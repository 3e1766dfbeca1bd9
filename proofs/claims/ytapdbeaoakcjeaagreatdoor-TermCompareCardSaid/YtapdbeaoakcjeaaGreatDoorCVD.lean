/- (*reader).declare at variables alone. -/
import Derived.Test.YtapdbeaoakcjeaaGreatDoorCVC
namespace Go.Proofs.YtapdbeaoakcjeaaGreatDoor.Se
open Go.RowKit Nmx
/-- the variables as the reader knows them: the first of each name -/
def dclF : List (ByteArray × Int) → List (ByteArray × Int) → List (ByteArray × Int)
  | V, [] => V
  | V, p :: l => dclF (if (lookA p.1 V).isSome then V else putA p.1 p.2 V) l
/-- a slice of variables -/
def VarsAt (w : World) (g : Nat) (l : List (ByteArray × Int)) : Prop := ∀ j p, l[j]? = some p → w.cell? ⟨g, j * 2, none⟩ = some (.string p.1) ∧ w.cell? ⟨g, j * 2 + 1, none⟩ = some (.int .i64 p.2)
structure DC (S R V : Nat) (w : World) (O : Obj) (vs : List (ByteArray × Int)) (W : World) : Prop where
  rd : W.heap[R]? = some O
  mv : MapS W V (asI vs)
  gr : w.grownBy W (some V)
theorem DC.far {S R V : Nat} {w : World} {O : Obj} {vs : List (ByteArray × Int)} {W W' : World} (h : DC S R V w O vs W) (hb : Below W.heap.size W W') : DC S R V w O vs W' :=
  ⟨(hb.block _ (lt_of_heap h.rd)).trans h.rd, h.mv.far hb, far_grown h.gr hb h.gr.size⟩
theorem grown_trans {w w1 w2 : World} {V : Nat} (h1 : w.grownBy w1 (some V)) (h2 : w1.grownBy w2 (some V)) : w.grownBy w2 (some V) :=
  ⟨h2.os.trans h1.os, h2.tape.trans h1.tape, h2.output.trans h1.output, Nat.le_trans h1.size h2.size, fun k hk hne => (h2.block k (Nat.lt_of_lt_of_le hk h1.size) hne).trans (h1.block k hk hne)⟩
theorem DC.put {S R V : Nat} {w : World} {O : Obj} {vs : List (ByteArray × Int)} {s : ByteArray} {v : Int} {W W' : World} (h : DC S R V w O vs W) (hne : R ≠ V) (hm : MapS W' V (putS s (.int .i64 v) (asI vs))) (hg : W.grownBy W' (some V)) : DC S R V w O (putA s v vs) W' :=
  ⟨(hg.block R (lt_of_heap h.rd) (fun e => hne (Option.some.inj e))).trans h.rd, by rw [putI] at hm; exact hm, grown_trans h.gr hg⟩
section
set_option maxHeartbeats 2000000
set_option maxRecDepth 100000
theorem declare_vars (R V F g cap : Nat) (ai ae ab av : Option Addr) (ni ci ne ce nb cb : Nat) (cf : Bool) (p er : Int) (vs l : List (ByteArray × Int)) (w : World)
    (hR : w.heap[R]? = some (rdC ai ni ci ae ne ce V F ab nb cb cf p er)) (hm : MapS w V (asI vs)) (hav : l.length ≠ 0 → av = some ⟨g, 0, none⟩) (hg : g < w.heap.size) (hgV : g ≠ V) (hl : l.length ≤ 100000) (hc : VarsAt w g l) (hok : ∀ q ∈ l, nameF q.1.toList = true ∧ 1 ≤ q.2 ∧ q.2 ≤ 4) :
    Calls Tryz.prog 100 #[.pointer (some ⟨R, 0, none⟩), .slice av l.length cap, .slice none 0 0] w fun e w' => e = .returned (.bool true) ∧ DC 0 R V w (rdC ai ni ci ae ne ce V F ab nb cb cf p er) (dclF vs l) w' := by
  have hRV : R ≠ V := by
    rintro rfl;obtain ⟨es, c, hh, -⟩ := hm;rw [hh] at hR; cases hR
  have HRV := Lib.hid hRV;have HDC : Hid (DC 0 R V w (rdC ai ni ci ae ne ce V F ab nb cb cf p er) vs w) := Lib.hid ⟨hR, hm, ⟨rfl, rfl, rfl, Nat.le_refl _, fun _ _ _ => rfl⟩⟩;have HC := Lib.hid hc;have HOK := Lib.hid hok;have HAV := Lib.hid hav;obtain ⟨n, hn⟩ : ∃ n, l.length = n := ⟨_, rfl⟩
  have HN := Lib.hid hn;rw [hn] at hl ⊢;clear hR hm hav hc hok hn hRV
  go_enter Tryz.func100, Tryz.ntmps100
  go_wp2
  go_loopw [21] (fun v wr => ∃ (k : Nat) (us : List (ByteArray × Int)), k ≤ n ∧ v = .int .i64 k ∧ dclF us (l.drop k) = dclF vs l ∧ DC 0 R V w (rdC ai ni ci ae ne ce V F ab nb cb cf p er) us wr) (fun v _ => n - (intOf v).toNat)
  case atStart => exact ⟨0, vs, Nat.zero_le _, rfl, rfl, HDC.out⟩
  case round =>
    clear HDC;obtain ⟨k, us, hk, rfl, hD, hdc⟩ := hrel;have HD := Lib.hid hD;have HDC := Lib.hid hdc;clear hD hdc;have hk0 : (0 : Int) ≤ (k : Int) := by omega
    by_cases hkn : k < n
    · have hkn' : (k : Int) < (n : Int) := by omega
      have hkl : k < l.length := by rw [HN.out]; exact hkn
      obtain rfl := HAV.out (by omega);obtain ⟨c0, c1⟩ := HC.out k _ (List.getElem?_eq_getElem hkl);have hgw : ∀ q, wr.cell? ⟨g, q, none⟩ = w.cell? ⟨g, q, none⟩ := fun q => World.cell?_of_block (HDC.out.gr.block g hg (fun e => hgV (Option.some.inj e)))
      have q0 := (hgw _).trans c0;have q1 := (hgw _).trans c1;obtain ⟨o1, o2, o3⟩ := HOK.out _ (List.getElem_mem hkl);have HST : Hid (dclF us (l[k] :: l.drop (k + 1)) = dclF vs l) := Lib.hid (by rw [← List.drop_eq_getElem_cons hkl]; exact HD.out);clear HD hgw c0 c1;generalize l[k] = x at *;obtain ⟨nm, so⟩ := x;simp only at q0 q1 o1 o2 o3;have s1 : decide (1 ≤ so) = true := by simpa using o2
      have s2 : decide (so ≤ 4) = true := by simpa using o3
      have hbx := heap_alloc_new wr (.cells #[.string nm, .int .i64 so] 46);have hal := alloc_far' wr (.cells #[.string nm, .int .i64 so] 46);have HNM : Hid (∀ W, Calls Tryz.prog 78 #[.string nm] W fun e w' => e = .returned (.bool true) ∧ w' = W) := Lib.hid (fun W => by have := isName_any nm W; rwa [o1] at this);have HSO : Hid (∀ W, Calls Tryz.prog 77 #[.int .i64 so] W fun e w' => e = .returned (.bool true) ∧ w' = W) := Lib.hid (fun W => by have := isSort_any so W; rwa [s1, s2] at this);have HDa := Lib.hid (HDC.out.far hal);clear hal o1 o2 o3 s1 s2
      go_upto_region 6 with (first | (go_at_call 78; refine (HNM.out _).mono ?_; rintro e w1 ⟨rfl, hw1⟩; obtain rfl := hw1.symm) | (go_at_call 77; refine (HSO.out _).mono ?_; rintro e w1 ⟨rfl, hw1⟩; obtain rfl := hw1.symm))
      generalize wr.alloc (.cells #[.string nm, .int .i64 so] 46) = wa at *;generalize wr.heap.size = D at *;clear q0 q1 HNM HSO;cases hv : lookA nm us with
      | none =>
        have HF := Lib.hid (findI_none 0 hv);have HS2 : Hid (dclF (putA nm so us) (l.drop (k + 1)) = dclF vs l) := Lib.hid (by rw [← HST.out]; simp only [dclF]; rw [hv]; rfl);clear HST hv;refine add_region [[], [0], [0, 1], [0, 1, 2], [], [4], [0, 1, 2, 3, 4, 5], [0, 1, 2, 3, 4, 5, 6], [0, 1, 2, 3, 4, 5, 6, 7], [0, 1, 2, 3, 4, 5, 6, 7], [0, 1, 2, 3, 4, 5, 6, 7, 8], [0, 1, 2, 3, 4, 5, 6, 7, 8, 9, 10]] (fun W => DC 0 R V w (rdC ai ni ci ae ne ce V F ab nb cb cf p er) us W ∧ W.heap[D]? = some (.cells #[.string nm, .int .i64 so] 46 (0, 0))) (fun _ => True) ?_
        iterate 6
          apply a_con
          · intro x; go_simp; done
          · intro x W R hW hF hR;have rd := hW.1.rd;unfold rdC at rd;have c2 := heap_cell rd 2;have d0 := heap_cell hW.2 0;have d1 := heap_cell hW.2 1;clear hF rd;unfold addAt
            go_simp
            simp only [addUpon];exact hR _ (Below.refl _ _)
          simp only [Act.put, List.setIfInBounds_toArray, List.set_cons_zero, List.set_cons_succ]
        apply a_con
        · intro x; go_simp; done
        · intro x W R hW hF hR;have rd := hW.1.rd;unfold rdC at rd;have c2 := heap_cell rd 2;have d0 := heap_cell hW.2 0;have d1 := heap_cell hW.2 1;clear hF rd;have hlk := run_look_miss (P := Tryz.prog) (k := 9) (e := 3) (t := 112) Tryz.underlying9 Tryz.underlying112 hW.1.mv HF.out (zeroInt W);unfold addAt
          go_simp
          simp only [addUpon];exact hR _ (Below.refl _ _)
        simp only [Act.put, List.setIfInBounds_toArray, List.set_cons_zero, List.set_cons_succ]
        iterate 5
          apply a_con
          · intro x; go_simp; done
          · intro x W R hW hF hR;clear hF hW;unfold addAt
            go_simp
            simp only [addUpon];exact hR _ (Below.refl _ _)
          simp only [Act.put, List.setIfInBounds_toArray, List.set_cons_zero, List.set_cons_succ]
        refine a_nil (by kernel_rfl) (by kernel_rfl) (by kernel_rfl) (fun _ _ h hb => ⟨h.1.far hb, (hb.block _ (lt_of_heap h.2)).trans h.2⟩) (fun _ _ _ _ => trivial) (fun _ _ => trivial) (⟨HDa.out.far (Below.refl _ _).drew, ((Below.refl _ _).drew.block _ (lt_of_heap hbx)).trans hbx⟩) ?_;intro x W hE hW hF hD;clear hD;have hC6 := Lib.hid (hW rfl);clear hF hW
        go_upto_region 8 with fail
        refine add_region [[], [0], [0, 1], [0, 1, 2], [], [4], [], [6], [0, 1, 2, 3, 4, 5, 6, 7]] (fun W => DC 0 R V w (rdC ai ni ci ae ne ce V F ab nb cb cf p er) us W ∧ W.heap[D]? = some (.cells #[.string nm, .int .i64 so] 46 (0, 0))) (fun _ => True) ?_
        iterate 8
          apply a_con
          · intro x; go_simp; done
          · intro x W R hW hF hR;have rd := hW.1.rd;unfold rdC at rd;have c2 := heap_cell rd 2;have d0 := heap_cell hW.2 0;have d1 := heap_cell hW.2 1;clear hF rd;unfold addAt
            go_simp
            simp only [addUpon];exact hR _ (Below.refl _ _)
          simp only [Act.put, List.setIfInBounds_toArray, List.set_cons_zero, List.set_cons_succ]
        refine a_wrt (fun _ W => DC 0 R V w (rdC ai ni ci ae ne ce V F ab nb cb cf p er) (putA nm so us) W) (fun _ _ _ h hb => h.far hb) (fun _ _ _ _ h => h) ?_ ?_ ?_
        · intro x; go_simp; done
        · intro x W R' hW hF hD hR;obtain ⟨w2, hrun, hm2, hg2⟩ := run_put_any (P := Tryz.prog) (k := 9) (e := 3) (t := 112) Tryz.underlying9 Tryz.underlying112 hW.1.mv nm (.int .i64 so);clear hF hD;unfold addAt
          go_simp
          simp only [addUpon];exact hR _ _ (hW.1.put HRV.out hm2 hg2) trivial hg2.size
        simp only [Act.put];refine a_nil (by kernel_rfl) (by kernel_rfl) (by kernel_rfl) (fun _ _ h hb => ⟨h.1.far hb, (hb.block _ (lt_of_heap h.2)).trans h.2⟩) (fun _ _ _ _ => trivial) (fun _ _ => trivial) (⟨hC6.out.1.far (Below.refl _ _).drew, ((Below.refl _ _).drew.block _ (lt_of_heap hC6.out.2)).trans hC6.out.2⟩) ?_;intro x W hE hW hF hD;clear hD;have HDE := Lib.hid (hF.1.2 rfl);clear hF hW hC6
        go_wp2_with fail
        go_roundw
        case rel => exact ⟨k + 1, _, by omega, by go_num, HS2.out, HDE.out⟩
        case measure => simp [intOf]; omega
      | some v0 =>
        obtain ⟨jf, hjf⟩ := findI_some 0 hv;have HF := Lib.hid hjf;have HS2 : Hid (dclF us (l.drop (k + 1)) = dclF vs l) := Lib.hid (by rw [← HST.out]; simp only [dclF]; rw [hv]; rfl);clear HST hv hjf;refine add_region [[], [0], [0, 1], [0, 1, 2], [], [4], [0, 1, 2, 3, 4, 5], [0, 1, 2, 3, 4, 5, 6], [0, 1, 2, 3, 4, 5, 6, 7], [0, 1, 2, 3, 4, 5, 6, 7], [0, 1, 2, 3, 4, 5, 6, 7, 8], [0, 1, 2, 3, 4, 5, 6, 7, 8, 9, 10]] (fun W => DC 0 R V w (rdC ai ni ci ae ne ce V F ab nb cb cf p er) us W ∧ W.heap[D]? = some (.cells #[.string nm, .int .i64 so] 46 (0, 0))) (fun _ => True) ?_
        iterate 6
          apply a_con
          · intro x; go_simp; done
          · intro x W R hW hF hR;have rd := hW.1.rd;unfold rdC at rd;have c2 := heap_cell rd 2;have d0 := heap_cell hW.2 0;have d1 := heap_cell hW.2 1;clear hF rd;unfold addAt
            go_simp
            simp only [addUpon];exact hR _ (Below.refl _ _)
          simp only [Act.put, List.setIfInBounds_toArray, List.set_cons_zero, List.set_cons_succ]
        apply a_con
        · intro x; go_simp; done
        · intro x W R hW hF hR;have rd := hW.1.rd;unfold rdC at rd;have c2 := heap_cell rd 2;have d0 := heap_cell hW.2 0;have d1 := heap_cell hW.2 1;clear hF rd;have hlk := run_look_hit (P := Tryz.prog) (k := 9) (e := 3) (t := 112) Tryz.underlying9 Tryz.underlying112 hW.1.mv HF.out;unfold addAt
          go_simp
          simp only [addUpon];exact hR _ (Below.refl _ _)
        simp only [Act.put, List.setIfInBounds_toArray, List.set_cons_zero, List.set_cons_succ]
        iterate 5
          apply a_con
          · intro x; go_simp; done
          · intro x W R hW hF hR;clear hF hW;unfold addAt
            go_simp
            simp only [addUpon];exact hR _ (Below.refl _ _)
          simp only [Act.put, List.setIfInBounds_toArray, List.set_cons_zero, List.set_cons_succ]
        refine a_nil (by kernel_rfl) (by kernel_rfl) (by kernel_rfl) (fun _ _ h hb => ⟨h.1.far hb, (hb.block _ (lt_of_heap h.2)).trans h.2⟩) (fun _ _ _ _ => trivial) (fun _ _ => trivial) (⟨HDa.out.far (Below.refl _ _).drew, ((Below.refl _ _).drew.block _ (lt_of_heap hbx)).trans hbx⟩) ?_;intro x W hE hW hF hD;clear hD;have hC6 := Lib.hid (hW rfl);clear hF hW
        go_wp2_with fail
        go_roundw
        case rel => exact ⟨k + 1, us, by omega, by go_num, HS2.out, hC6.out.1⟩
        case measure => simp [intOf]; omega
    · obtain rfl : k = n := by omega
      have HS2 : Hid (us = dclF vs l) := Lib.hid (by rw [← HD.out, List.drop_of_length_le (by rw [HN.out]; exact Nat.le_refl _)]; rfl);clear HD
      go_wp2
      go_loopw [58] (fun v wr' => v = .int .i64 0 ∧ wr' = wr) (fun _ _ => 0)
      case atStart => exact ⟨rfl, rfl⟩
      case round =>
        obtain ⟨rfl, rfl⟩ := hrel
        go_wp2
        go_ret
        exact ⟨rfl, by rw [← HS2.out]; exact HDC.out⟩
end
end Go.Proofs.YtapdbeaoakcjeaaGreatDoor.Se

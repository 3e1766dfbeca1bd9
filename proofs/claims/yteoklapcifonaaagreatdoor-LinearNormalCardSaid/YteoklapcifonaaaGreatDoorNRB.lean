/- The reference's mulMag. -/
import Derived.Test.YteoklapcifonaaaGreatDoorNRA
import Derived.StillTailTactics
import Derived.Test.YteoklapcifonaaaGreatDoorNNA
open Go.Lib (hid)
namespace Go.Proofs.YteoklapcifonaaaGreatDoor
open Go.RowKit Nmx
open Rf
def i64s (l : List Nat) : List Value := l.map fun (n : Nat) => Value.int .i64 (n : Int)
theorem i64s_set (l : List Nat) (i x : Nat) : (i64s l).toArray.setIfInBounds i (.int .i64 (x : Int)) = (i64s (l.set i x)).toArray := by
 simp [i64s, List.map_set]
theorem i64s_at (l : List Nat) (i : Nat) (hi : i < l.length) : (i64s l)[i]? = some (.int .i64 ((l.getD i 0 : Nat) : Int)) := by
 simp [i64s, List.getD_eq_getElem?_getD, hi]
/-- a block of ints of the call's own -/
def IR (w : World) (g : Nat) (l : List Nat) : Prop := w.heap[g]? = some (.cells (i64s l).toArray 3 (0, 0))
theorem IR.set {w : World} {g : Nat} {l : List Nat} (h : IR w g l) (i x : Nat) (z : Int) (hz : z = x) : IR (w.setCell ⟨g, i, none⟩ (.int .i64 z)) g (l.set i x) := by
 subst hz;unfold IR;rw [← i64s_set]; exact av h i _
theorem IR.cell {w : World} {g : Nat} {l : List Nat} (h : IR w g l) (i : Nat) (hi : i < l.length) : w.cell? ⟨g, i, none⟩ = some (.int .i64 ((l.getD i 0 : Nat) : Int)) := by
 rw [aa h i]; simpa using i64s_at l i hi
theorem IR.fz {w : World} {g : Nat} {l : List Nat} (h : IR w g l) (i : Nat) : w.frozen? ⟨g, i, none⟩ = false := ah h i
theorem IR.new (w : World) (l : List Nat) : IR (w.alloc (.cells (i64s l).toArray 3)) w.heap.size l := heap_alloc_new w _
theorem IR.far {w w' : World} {g : Nat} {l : List Nat} (h : IR w g l) (hb : Below w.heap.size w w') : IR w' g l := (hb.block g (ab h)).trans h
theorem infoInt : (Tryz.prog.info? 3).map (fun i => (i.zero, i.size, i.bytes)) = some (some (.int .i64 0), 1, 8) := by kernel_rfl
theorem made_int (n : Nat) : madeCells (Value.cells (.int .i64 0)) (n * 1) = (i64s (List.replicate n 0)).toArray := by
 apply Array.ext
 · simp [madeCells, i64s]
 · intro i h1 h2
   simp [madeCells, i64s, Value.cells, Nat.mod_one]
theorem mk_ints (n : Nat) (hn : n ≤ 1000000000) (z : Int) (hz : z = n) (W : World) :
    (Instr.makeSlice 22 (.int .i64 z) (.int .i64 z)).run Tryz.prog W = .ok (.slice (some ⟨W.heap.size, 0, none⟩) n n) (W.alloc (.cells (i64s (List.replicate n 0)).toArray 3)) := by
 subst hz;obtain ⟨i0, hi, hz0, hz1, hz2⟩ := info_parts infoInt;have hr := run_make (P := Tryz.prog) W 22 3 i0 _ Tryz.underlying22 hi hz0 .i64 .i64 n n (by omega) (by omega) (by rw [hz2]; omega) (by omega);rw [hz1, Int.toNat_natCast, made_int] at hr;exact hr
theorem fd_get (s : ByteArray) (k : Nat) (hk : k < s.size) : fd s.data.toList k = (s[k]).toNat - 48 := by
 have := byte_at s k hk;unfold fd;rw [List.getD_eq_getElem?_getD, this]; rfl
section
set_option maxRecDepth 100000
set_option maxHeartbeats 4000000
theorem aV (s t : ByteArray) (x y : Nat) (w : World) (hs : s.data.toList = af x) (ht : t.data.toList = af y) (h1 : s.size ≤ 100000) (h2 : t.size ≤ 100000) : Calls Tryz.prog 59 #[.string s, .string t] w fun e w' => e = .returned (.string ⟨(af (x * y)).toArray⟩) ∧ Below w.heap.size w w' := by
 have HDA : Hid (s.data.toList.all isD = true) := hid (by rw [hs]; exact ay x);have HDB : Hid (t.data.toList.all isD = true) := hid (by rw [ht]; exact ay y);have HV : Hid (dv s.data.toList = x ∧ dv t.data.toList = y) := hid (by rw [hs, ht, bu, bu]; exact ⟨rfl, rfl⟩);have h0 : 0 < s.size := by rw [← size_data, hs]; exact decN_len_pos x
 clear hs ht;have hls := size_data s;have hlt := size_data t;have HLS := hid hls;have HLT := hid hlt;have HS0 := hid (MulD.start s.data.toList t.data.toList);rw [hls, hlt] at HS0;obtain ⟨n, hn⟩ : ∃ n, s.size + t.size = n := ⟨_, rfl⟩
 have hni : (s.size : Int) + (t.size : Int) = (n : Int) := by omega
 have hn2 : n ≤ 200000 := by omega
 have HN := hid hn;rw [hn] at HS0;clear hls hlt hn;have hmk := mk_ints n (by omega) (n : Int) rfl;have hmr := mk_row n (by omega) (n : Int) rfl;have HST := hid (IR.new w (List.replicate n 0));have HBE : Hid (Below w.heap.size w (w.alloc (.cells (i64s (List.replicate n 0)).toArray 3))) := hid ((Below.refl _ _).alloc (Nat.le_refl _) _)
 go_enter Tryz.func59, Tryz.ntmps59
 go_wp2
 go_loopw [6] (fun i wr => ∃ (k : Nat) (L : List Nat), k ≤ s.size ∧ i = .int .i64 k ∧ MulD s.data.toList t.data.toList L k 0 ∧ IR wr w.heap.size L ∧ Below w.heap.size w wr) (fun i _ => s.size - (intOf i).toNat)
 case atStart => exact ⟨0, _, Nat.zero_le _, rfl, HS0.out, HST.out, HBE.out⟩
 case round =>
  obtain ⟨k, L, hk, rfl, hmu, hir, hbel⟩ := hrel;have HR := hid hmu;have HW := hid hir;have HBl := hid hbel;clear hmu hir hbel HST HBE HS0
  by_cases hlt : k < s.size
  · have hda := dig_get s HDA.out k hlt;have HDI := hid (fd_get s k hlt)
    go_wp2
    go_loopw [7] (fun i wr => ∃ (j : Nat) (L : List Nat), j ≤ t.size ∧ i = .int .i64 j ∧ MulD s.data.toList t.data.toList L k j ∧ IR wr w.heap.size L ∧ Below w.heap.size w wr) (fun i _ => t.size - (intOf i).toNat)
    case atStart => exact ⟨0, _, Nat.zero_le _, rfl, HR.out, HW.out, HBl.out⟩
    case round =>
     clear HR HW HBl;obtain ⟨j, L, hj, rfl, hmu, hir, hbel⟩ := hrel;have HR := hid hmu;have HW := hid hir;have HBl := hid hbel;have hln : L.length = n := by rw [hmu.len, HLS.out, HLT.out, HN.out]
     have hle := hmu.le;rw [HLT.out] at hle;clear hmu hir hbel
     by_cases hjt : j < t.size
     · have hdb := dig_get t HDB.out j hjt;have HDJ := hid (fd_get t j hjt);have hnn := HN.out;have hcw := HW.out.cell (k + j + 1) (by omega);have hfw := HW.out.fz (k + j + 1);have HSP := hid (HR.out.step HDA.out HDB.out (by rw [HLS.out]; exact hlt) (by rw [HLT.out]; exact hjt));have hbd := hle (k + j + 1);have hkt : k * t.size ≤ 100000 * 100000 := Nat.mul_le_mul (by omega) h2;have q0 : (0 : Int) ≤ (k : Int) + (j : Int) + 1 := by omega
       have q1 : ((k : Int) + (j : Int) + 1).toNat = k + j + 1 := by omega
       have q2 : (k : Int) + (j : Int) + 1 < (n : Int) := by omega
       have HMUL : Hid (((s[k].toNat : Int) - 48) * ((t[j].toNat : Int) - 48) = ((fd s.data.toList k * fd t.data.toList j : Nat) : Int)) := hid (by
        rw [HDI.out, HDJ.out, Int.natCast_mul]; congr 1 <;> omega)
       have hm81 : fd s.data.toList k * fd t.data.toList j ≤ 9 * 9 := Nat.mul_le_mul (by have := HDI.out; omega) (by have := HDJ.out; omega);generalize fd s.data.toList k * fd t.data.toList j = p at *;generalize L.getD (k + j + 1) 0 = z at *;have hz1 : (z : Int) ≤ 1000000000000 := by omega
       have hz0 : (0 : Int) ≤ (z : Int) := by omega
       have hm := HMUL.out;have hw1 : IntKind.i64.wrap (p : Int) = (p : Int) := by rw [IntKind.wrap_i64]; omega
       have hw2 : IntKind.i64.wrap ((z : Int) + (p : Int)) = (z : Int) + (p : Int) := by rw [IntKind.wrap_i64]; omega
       have hw3 : IntKind.i64.wrap ((k : Int) + (j : Int)) = (k : Int) + (j : Int) := by rw [IntKind.wrap_i64]; omega
       have hw4 : IntKind.i64.wrap ((k : Int) + (j : Int) + 1) = (k : Int) + (j : Int) + 1 := by rw [IntKind.wrap_i64]; omega
       have hw5 : IntKind.u8.wrap ((s[k].toNat : Int) - 48) = (s[k].toNat : Int) - 48 := by rw [IntKind.wrap_u8]; omega
       have hw6 : IntKind.u8.wrap ((t[j].toNat : Int) - 48) = (t[j].toNat : Int) - 48 := by rw [IntKind.wrap_u8]; omega
       have hw7 : IntKind.i64.wrap ((s[k].toNat : Int) - 48) = (s[k].toNat : Int) - 48 := by rw [IntKind.wrap_i64]; omega
       have hw8 : IntKind.i64.wrap ((t[j].toNat : Int) - 48) = (t[j].toNat : Int) - 48 := by rw [IntKind.wrap_i64]; omega
       clear hle hkt hbd hnn
       go_wp2
       go_still_tail 20, (by kernel_rfl)
       change wpList _ _ _ _ _ wr.drew;have HW2 : Hid (IR wr.drew w.heap.size L) := hid HW.out;have HB2 : Hid (Below w.heap.size w wr.drew) := hid HBl.out.drew;have hcw2 : wr.drew.cell? ⟨w.heap.size, k + j + 1, none⟩ = some (.int .i64 (z : Int)) := hcw;have hfw2 : wr.drew.frozen? ⟨w.heap.size, k + j + 1, none⟩ = false := hfw;generalize wr.drew = w2 at *
       go_wp2
       exact ⟨⟨j + 1, _, by omega, by go_num, HSP.out, HW2.out.set _ _ _ (by omega), HB2.out.setCell (Nat.le_refl _) _⟩, by simp [intOf]; omega⟩
     · obtain rfl : j = t.size := by omega
       have HNX := hid (MulD.next (by have := HR.out; rwa [← HLT.out] at this) (by rw [HLS.out]; exact hlt))
       go_wp2
       go_roundw
       case rel => exact ⟨k + 1, _, by omega, by go_num, HNX.out, HW.out, HBl.out⟩
       case measure => simp [intOf]; omega
  · obtain rfl : k = s.size := by omega
    have hln : L.length = n := by rw [HR.out.len, HLS.out, HLT.out, HN.out]
    have hle := HR.out.le;rw [HLT.out, Nat.add_zero] at hle
    have HVT : Hid (vt L = x * y) := hid (by
     have h := HR.out;rw [← HLS.out] at h
     rw [h.done, HV.out.1, HV.out.2])
    have HLT10 : Hid (vt L < 10 ^ n) := hid (by
     rw [HVT.out, ← HV.out.1, ← HV.out.2, ← HN.out, Nat.pow_add, ← HLS.out, ← HLT.out];have h1 := dv_lt _ HDA.out;have h2 := dv_lt _ HDB.out;rcases Nat.eq_zero_or_pos (dv t.data.toList) with h | h
     · rw [h, Nat.mul_zero]; exact Nat.mul_pos (Nat.pow_pos (by omega)) (Nat.pow_pos (by omega))
     · exact Nat.mul_lt_mul_of_lt_of_le h1 (Nat.le_of_lt h2) (Nat.pow_pos (by omega)))
    have hst : s.size * t.size ≤ 100000 * 100000 := Nat.mul_le_mul h1 h2;obtain ⟨M, hM⟩ : ∃ M, 81 * (s.size * t.size) = M := ⟨_, rfl⟩
    rw [hM] at hle;have hM2 : M ≤ 810000000000 := by omega
    have HLE := hid hle;have hn0 : 0 < n := by have := HN.out; omega
    have hsz := ab HW.out;have HBR := hid (BR.new wr (List.replicate n 0));have HBA : Hid (Below wr.heap.size wr (wr.alloc (.cells (bcs (List.replicate n 0)).toArray 5))) := hid ((Below.refl _ _).alloc (Nat.le_refl _) _);have HC0 := hid (CarD.start L (List.replicate n 0) n M List.length_replicate hln);clear hle hst hM HR;obtain ⟨wo, rfl⟩ : ∃ wo : World, wo = wr := ⟨_, rfl⟩
    go_wp2
    go_loopw [9, 10] (fun c i wr => ∃ (m cc : Nat) (q : List UInt8), m ≤ n ∧ i = .int .i64 ((n : Int) - 1 - m) ∧ c = .int .i64 cc ∧ CarD L q n M m cc ∧ BR wr wo.heap.size q ∧ Below wo.heap.size wo wr) (fun _ i _ => (intOf i + 1).toNat)
    case atStart => exact ⟨0, 0, _, Nat.zero_le _, by simp, rfl, HC0.out, HBR.out, HBA.out⟩
    case round =>
     clear HC0 HBR HBA;obtain ⟨m, cc, q, hm, rfl, rfl, hcar, hbr, hbel⟩ := hrel;have HR := hid hcar;have HB := hid hbr;have HBb := hid hbel;have hql := hcar.len;have hc1 := hcar.c1;clear hcar hbr hbel
     by_cases hmn : m < n
     · have hge : (0 : Int) ≤ (n : Int) - 1 - (m : Int) := by omega
       have p1 : ((n : Int) - 1 - (m : Int)).toNat = n - 1 - m := by omega
       have p2 : (n : Int) - 1 - (m : Int) < (n : Int) := by omega
       have hcl := (HW.out.far HBb.out).cell (n - 1 - m) (by omega);have hcw := HB.out.cell (n - 1 - m) (by omega);have hfw := HB.out.fz (n - 1 - m);have HSP : Hid (∀ u, u = L.getD (n - 1 - m) 0 + cc → CarD L (q.set (n - 1 - m) (dg (u % 10))) n M (m + 1) (u / 10)) := hid (fun u hu => HR.out.step hln HLE.out hmn u hu);have hv := HLE.out (n - 1 - m);generalize q.getD (n - 1 - m) 0 = z at *;generalize L.getD (n - 1 - m) 0 = v at *;obtain ⟨u, hu⟩ : ∃ u, v + cc = u := ⟨_, rfl⟩
       have hui : (v : Int) + (cc : Int) = (u : Int) := by omega
       have HST := hid (HSP.out u hu.symm);have HDG : Hid ((48 + (u : Int) % 10) = ((dg (u % 10)).toNat : Int)) := hid (by rw [bB (Nat.mod_lt _ (by omega))]; omega);have hu1 : u ≤ 2000000000000 := by omega
       clear hu HSP
       go_wp2
       exact ⟨⟨m + 1, u / 10, q.set (n - 1 - m) (dg (u % 10)), by omega, by congr 1; omega, by go_num, HST.out, HB.out.set _ _ _ HDG.out, HBb.out.setCell (Nat.le_refl _) _⟩, by simp [intOf]; omega⟩
     · obtain rfl : m = n := by omega
       have hneg : ¬ (0 : Int) ≤ (m : Int) - 1 - (m : Int) := by omega
       have HD : Hid (bE q = af (x * y)) := hid (by rw [HR.out.done hn0 HLT10.out, HVT.out]);have hcv := conv_row HB.out m hql.symm;have htr := refTrim_any ⟨q.toArray⟩ wr (by rw [sz_txt]; omega);rw [show (⟨q.toArray⟩ : ByteArray).data.toList = q from rfl, HD.out] at htr
       go_wp2_with fail
       refine htr.mono ?_;rintro e w1 ⟨rfl, hb1⟩;have HB1 := hid (HBl.out.trans ((HBb.out.trans (hb1.mono HBb.out.size)).mono HBl.out.size));clear hb1 htr hcv
       go_wp2
       go_ret
       exact ⟨rfl, HB1.out⟩
end
end Go.Proofs.YteoklapcifonaaaGreatDoor
namespace Go.Proofs.YteoklapcifonaaaGreatDoor
open Go.RowKit Nmx
open Rf
theorem tx_data (l : List UInt8) : (⟨l.toArray⟩ : ByteArray).data.toList = l := rfl
theorem dec_size {R B n : Nat} (h : R < B) (hB : (af B).length ≤ n) : (af R).length ≤ n := by
 rcases Nat.lt_or_ge n (af R).length with h1 | h1
 · have := len_lt (m := B) (n := R) (by omega); omega
 · exact h1
theorem one_more (r s : ByteArray) (k : Nat) (hk : k < s.size) : (r ++ s.extract k (k + 1)).data.toList = r.data.toList ++ [s[k]] := by
 rw [ByteArray.data_append, Array.toList_append, ex_data]
 congr 1
 rw [Nat.add_sub_cancel_left, List.take_one, List.head?_drop, byte_at s k hk]; rfl
def strOf : Value → List UInt8
 | .string b => b.data.toList
 | _ => []
section
set_option maxRecDepth 100000
set_option maxHeartbeats 4000000
theorem refDivMag_any (s t : ByteArray) (x y : Nat) (w : World) (hs : s.data.toList = af x) (ht : t.data.toList = af y) (h1 : s.size ≤ 100000) (h2 : t.size ≤ 100000) (hy : 0 < y) : Calls Tryz.prog 106 #[.string s, .string t] w fun e w' => e = .returned (.tuple #[.string ⟨(af (x / y)).toArray⟩, .string ⟨(af (x % y)).toArray⟩]) ∧ Below w.heap.size w w' := by
 have HDA : Hid (s.data.toList.all isD = true) := hid (by rw [hs]; exact ay x);have HV : Hid (dv s.data.toList = x) := hid (by rw [hs, bu]);have h0 : 0 < s.size := by rw [← size_data, hs]; exact decN_len_pos x
 have HLS := hid (size_data s);have HT := hid ht;have HTL : Hid ((af y).length = t.size) := hid (by rw [← ht, size_data]);clear hs ht;have hmr := mk_row s.size (by omega) (s.size : Int) rfl;have HST := hid (BR.new w (List.replicate s.size 0));have HBE : Hid (Below w.heap.size w (w.alloc (.cells (bcs (List.replicate s.size 0)).toArray 5))) := hid ((Below.refl _ _).alloc (Nat.le_refl _) _);have HS0 : Hid (LdD s.data.toList y (List.replicate s.size 0) 0 0) := hid (LdD.start _ _ y (by rw [List.length_replicate, size_data]) hy)
 go_enter Tryz.func106, Tryz.ntmps106
 go_wp2
 go_loopw [7, 8] (fun rv i wr => ∃ (k R : Nat) (q : List UInt8) (rb : ByteArray), k ≤ s.size ∧ i = .int .i64 k ∧ rv = .string rb ∧ rb.data.toList = af R ∧ LdD s.data.toList y q k R ∧ BR wr w.heap.size q ∧ Below w.heap.size w wr) (fun _ i _ => s.size - (intOf i).toNat)
 case atStart => exact ⟨0, 0, _, ⟨#[48]⟩, Nat.zero_le _, rfl, rfl, decN_zero.symm, HS0.out, HST.out, HBE.out⟩
 case round =>
  obtain ⟨k, R, q, rb, hk, rfl, rfl, hrb, hld, hbr, hbel⟩ := hrel;have HRB := hid hrb;have HR := hid hld;have HW := hid hbr;have HBl := hid hbel;have hql : q.length = s.size := by rw [hld.len, HLS.out]
  have HRL := hid hld.r1;have hrs : rb.size ≤ 100000 := by rw [← size_data, hrb]; exact dec_size hld.r1 (by rw [HTL.out]; exact h2)
  clear hrb hld hbr hbel HST HBE HS0
  by_cases hlt : k < s.size
  · have hda := dig_get s HDA.out k hlt;have HDI := hid (fd_get s k hlt);have HD1 : Hid (isD s[k] = true) := hid (bL.2 hda);have hx1 : (s.extract k (k + 1)).size = 1 := by rw [ByteArray.size_extract]; omega
    have HAPP := hid (one_more rb s k hlt);have hsz : (rb ++ s.extract k (k + 1)).size = rb.size + 1 := by rw [ByteArray.size_append, hx1]
    have htr := refTrim_any (rb ++ s.extract k (k + 1)) wr (by omega);rw [HAPP.out, HRB.out, trim_push R _ HD1.out, ← HDI.out] at htr;have hi1 : (k : Int) + 1 ≤ (s.size : Int) := by omega
    clear hda
    go_wp2_with fail
    refine htr.mono ?_;rintro e w1 ⟨rfl, hb1⟩;have HW1 := hid (HW.out.far hb1);have HB1 := hid (HBl.out.trans (hb1.mono HBl.out.size));have HFD : Hid (fd s.data.toList k < 10) := hid (fd_lt _ HDA.out k);clear hb1 htr hsz hx1;obtain ⟨d, hd⟩ : ∃ d, fd s.data.toList k = d := ⟨_, rfl⟩
    have HDE := hid hd;rw [hd] at HFD ⊢;clear hd
    go_wp2_with fail
    go_loopw [7, 9] (fun rv dv0 wr => ∃ (R' j : Nat) (rb : ByteArray), rv = .string rb ∧ rb.data.toList = af R' ∧ dv0 = .int .u8 ((48 + j : Nat) : Int) ∧ R' + j * y = 10 * R + d ∧ j ≤ 9 ∧ BR wr w.heap.size q ∧ Below w.heap.size w wr) (fun rv _ _ => dv (strOf rv))
    case atStart => exact ⟨10 * R + d, 0, _, rfl, rfl, rfl, by omega, by omega, HW1.out, HB1.out⟩
    case round =>
     clear HW1 HB1;obtain ⟨R', j, rb', rfl, hrb', rfl, he, hj, hbr, hbel⟩ := hrel;have HRB' := hid hrb';have HE := hid he;have HW1 := hid hbr;have HB1 := hid hbel;have hcm := refCmpMag_any rb' t R' y wr hrb' HT.out;clear hrb' he hbr hbel
     by_cases hless : R' < y
     · rw [cmpN_lt hless] at hcm;have hj9 : j < 10 := by omega
       have HSP := hid (HR.out.step (by rw [HLS.out]; exact hlt) hj9 hless (by rw [HE.out, HDE.out]))
       go_wp2_with fail
       refine hcm.mono ?_;rintro e w2 ⟨rfl, hb2⟩;have HW2 := hid (HW1.out.far hb2);have HB2 := hid (HB1.out.trans (hb2.mono HB1.out.size));have hcw := HW2.out.cell k (by omega);have hfw := HW2.out.fz k;have HDG : Hid (((48 + j : Nat) : Int) = ((dg j).toNat : Int)) := hid (by rw [bB hj9]);clear hb2 hcm;generalize q.getD k 0 = z at *
       go_wp2_with fail
       exact ⟨⟨k + 1, R', q.set k (dg j), rb', by omega, by go_num, rfl, HRB'.out, HSP.out, HW2.out.set _ _ _ HDG.out, HB2.out.setCell (Nat.le_refl _) _⟩, by simp [intOf]; omega⟩
     · have hge : ¬ cmpN R' y < 0 := by
         rcases Nat.lt_or_ge y R' with h | h
         · rw [cmpN_gt h]; omega
         · rw [cmpN_eq (by omega)]; omega
       have hj1 := digit_le HRL.out HFD.out HE.out (by omega);have HST := hid (show R' - y + (j + 1) * y = 10 * R + d by rw [← HE.out, Nat.add_mul]; omega)
       have hrs' : rb'.size ≤ 1000000 := by
        rw [← size_data, HRB'.out]
        have h10 : R' < 10 * y := by
         have := HE.out; have := HRL.out; have := HFD.out;have : 0 ≤ j * y := Nat.zero_le _
         omega
        have : (af R').length ≤ (af y).length + 1 := decN_len_le (by omega) (by
         have := (decN_len y (by omega)).2
         rw [Nat.pow_succ]; omega)
        rw [HTL.out] at this; omega
       have hsu := fun W => refSubMag_any rb' t R' y W HRB'.out HT.out hrs' (by omega)
       have HDV : Hid (dv rb'.data.toList = R') := hid (by rw [HRB'.out, bu]);generalize cmpN R' y = cv at *
       go_wp2_with fail
       refine hcm.mono ?_;rintro e w2 ⟨rfl, hb2⟩;have HW2 := hid (HW1.out.far hb2);have HB2 := hid (HB1.out.trans (hb2.mono HB1.out.size));clear hb2 hcm
       go_wp2_with fail
       refine (hsu _).mono ?_;rintro e w3 ⟨rfl, hb3⟩;have HW3 := hid (HW2.out.far hb3);have HB3 := hid (HB2.out.trans (hb3.mono HB2.out.size));clear hb3 hsu
       go_wp2_with fail
       go_roundw
       case rel => exact ⟨R' - y, j + 1, _, rfl, rfl, by go_num, HST.out, by omega, HW3.out, HB3.out⟩
       case measure =>
        show dv (af (R' - y)) < dv rb'.data.toList;rw [bu, HDV.out]; omega
  · obtain rfl : k = s.size := by omega
    have HDO := hid ((show LdD s.data.toList y q s.data.toList.length R from by rw [HLS.out]; exact HR.out).done (by intro e; have := HLS.out; rw [e] at this; simp at this; omega));rw [HV.out] at HDO;have hcv := conv_row HW.out s.size hql.symm;have htr := refTrim_any ⟨q.toArray⟩ wr (by rw [sz_txt]; omega);rw [tx_data, HDO.out.1] at htr;have HRE : Hid (rb = ⟨(af (x % y)).toArray⟩) := hid (ba_eq _ _ (by rw [HRB.out, HDO.out.2]));obtain rfl := HRE.out
    go_wp2_with fail
    refine htr.mono ?_;rintro e w1 ⟨rfl, hb1⟩;have HB1 := hid (HBl.out.trans (hb1.mono HBl.out.size));clear hb1 htr hcv
    go_wp2_with fail
    go_ret2
    exact ⟨rfl, HB1.out⟩
theorem refGcdMag_any (s t : ByteArray) (x y : Nat) (w : World) (hs : s.data.toList = af x) (ht : t.data.toList = af y) (h1 : s.size ≤ 100000) (h2 : t.size ≤ 100000) : Calls Tryz.prog 105 #[.string s, .string t] w fun e w' => e = .returned (.string ⟨(af (x.gcd y)).toArray⟩) ∧ Below w.heap.size w w' := by
 have HS := hid hs;have HT := hid ht;clear hs ht
 go_enter Tryz.func105, Tryz.ntmps105
 go_wp2
 go_loopw [0, 1] (fun a b wr => ∃ (p q : Nat) (sa sb : ByteArray), a = .string sa ∧ b = .string sb ∧ sa.data.toList = af p ∧ sb.data.toList = af q ∧ sa.size ≤ 100000 ∧ sb.size ≤ 100000 ∧ p.gcd q = x.gcd y ∧ Below w.heap.size w wr) (fun _ b _ => dv (strOf b))
 case atStart => exact ⟨x, y, s, t, rfl, rfl, HS.out, HT.out, h1, h2, rfl, Below.refl _ _⟩
 case round =>
  obtain ⟨p, q, sa, sb, rfl, rfl, ha, hb, hla, hlb, hg, hbel⟩ := hrel;have HA := hid ha;have HB := hid hb;have HG := hid hg;have HBl := hid hbel;have hsb : sb.toList = af q := by rw [ByteArray.toList_eq, hb]
  clear ha hb hg hbel
  by_cases hq : q = 0
  · subst hq;have h48 : (sb.toList == [48]) = true := by rw [hsb, decN_zero]; rfl
    have HE : Hid (sa = ⟨(af (x.gcd y)).toArray⟩) := hid (ba_eq _ _ (by rw [← HG.out, Nat.gcd_zero_right, HA.out]));clear hsb
    go_wp2
    go_ret
    exact ⟨au HE.out, HBl.out⟩
  · have h48 : (sb.toList == [48]) = false := by
      rw [beq_eq_false_iff_ne, hsb, ne_eq, decN_eq_zero]; exact hq
    have hdm := refDivMag_any sa sb p q wr HA.out HB.out hla hlb (by omega);have HR : Hid (q.gcd (p % q) = x.gcd y) := hid (by rw [← HG.out, Nat.gcd_comm p q, Nat.gcd_rec q p, Nat.gcd_comm]);have hlt : p % q < q := Nat.mod_lt _ (by omega);have hl : (af (p % q)).length ≤ 100000 := dec_size hlt (by rw [← HB.out, size_data]; exact hlb);have HDV : Hid (dv sb.data.toList = q) := hid (by rw [HB.out, bu]);clear hsb
    go_wp2_with fail
    refine hdm.mono ?_;rintro e w1 ⟨rfl, hb1⟩;have HB1 := hid (HBl.out.trans (hb1.mono HBl.out.size));clear hb1 hdm
    go_wp2_with fail
    go_roundw
    case rel => exact ⟨q, p % q, sb, _, rfl, rfl, HB.out, rfl, hlb, by rw [sz_txt]; exact hl, HR.out, HB1.out⟩
    case measure =>
     show dv (af (p % q)) < dv sb.data.toList;rw [bu, HDV.out]; exact hlt
end
end Go.Proofs.YteoklapcifonaaaGreatDoor
namespace Go.Proofs.YteoklapcifonaaaGreatDoor
open Go.RowKit Nmx
open Rf
def ratV (q : Rat) : Value := .agg #[.bool (decide (q.num < 0)), .string ⟨(af q.num.natAbs).toArray⟩, .string ⟨(af q.den).toArray⟩]
theorem set3h {w : World} {R : Nat} {x y z a b c : Value} {t : TypeId} (h : w.heap[R]? = some (.cells #[a, b, c] t (0, 0))) : (((w.setCell ⟨R, 0, none⟩ x).setCell ⟨R, 1, none⟩ y).setCell ⟨R, 2, none⟩ z).heap[R]? = some (.cells #[x, y, z] t (0, 0)) := by
 have := av (av (av h 0 x) 1 y) 2 z
 simpa using this
theorem end_r3 {fn : Func} {t : Tmp} {a : Act} {w w2 : World} {R : Nat} {v0 v1 v2 x0 x1 x2 : Value} {Q : Ending → World → Prop} (hres : fn.results = #[.cell t 90]) (hd : a.defers = []) (ht : a.tmps.getD t undef = .pointer (some ⟨R, 0, none⟩))
    (hR : w2.heap[R]? = some (.cells #[x0, x1, x2] 90 (0, 0))) (hb : Below w.heap.size w w2) (hRB : w.heap.size ≤ R)
    (hQ : ∀ w3, Below w.heap.size w w3 → Q (.returned (.agg #[v0, v1, v2])) w3) :
    bodyPost Tryz.prog fn Q .ret a (((w2.setCell ⟨R, 0, none⟩ v0).setCell ⟨R, 1, none⟩ v1).setCell ⟨R, 2, none⟩ v2) := by
 have h3 := set3h (x := v0) (y := v1) (z := v2) hR;have hbl := ((hb.setCell (show w.heap.size ≤ (⟨R, 0, none⟩ : Addr).block from hRB) v0).setCell (show w.heap.size ≤ (⟨R, 1, none⟩ : Addr).block from hRB) v1).setCell (show w.heap.size ≤ (⟨R, 2, none⟩ : Addr).block from hRB) v2;generalize ((w2.setCell ⟨R, 0, none⟩ v0).setCell ⟨R, 1, none⟩ v1).setCell ⟨R, 2, none⟩ v2 = w3 at *;have k0 := aa h3 0;have k1 := aa h3 1;have k2 := aa h3 2
 simp at k0 k1 k2
 refine bodyPost_ret (v := .agg #[v0, v1, v2]) ?_ hd (hQ _ hbl);have h1 : a.tmps[t]?.getD undef = .pointer (some ⟨R, 0, none⟩) := by simpa using ht
 simp [results, hres, go_sem, h1, k0, k1, k2]
theorem aL {g d n : Nat} (h : (af d).length ≤ n) (hg : g ≤ d) : (af g).length ≤ n := by
 rcases Nat.lt_or_ge n (af g).length with h1 | h1
 · have := len_lt (m := d) (n := g) (by omega); omega
 · exact h1
section
set_option maxRecDepth 100000
set_option maxHeartbeats 4000000
theorem refReduce_any (neg : Bool) (s t : ByteArray) (n d : Nat) (w : World) (hs : s.data.toList = af n) (ht : t.data.toList = af d) (h1 : s.size ≤ 100000) (h2 : t.size ≤ 100000) (hd : 0 < d) : Calls Tryz.prog 58 #[.bool neg, .string s, .string t] w fun e w' => e = .returned (ratV (redQ neg n d)) ∧ Below w.heap.size w w' := by
 obtain ⟨r1, r2⟩ := redQ_num neg n d hd;have r3 := (redQ_parts neg n d hd).2;have HQ : Hid (ratV (redQ neg n d) = .agg #[.bool (neg && decide (n / n.gcd d ≠ 0)), .string ⟨(af (n / n.gcd d)).toArray⟩, .string ⟨(af (d / n.gcd d)).toArray⟩]) := hid (by unfold ratV; rw [r1, r2, r3]);clear r1 r2 r3;have hg := fun W => refGcdMag_any s t n d W hs ht h1 h2
 have hgp : 0 < n.gcd d := Nat.gcd_pos_of_pos_right _ hd;have hgl : (af (n.gcd d)).length ≤ 100000 := aL (by rw [← ht, size_data]; exact h2) (Nat.gcd_le_right _ hd);have hn := fun W => refDivMag_any s ⟨(af (n.gcd d)).toArray⟩ n (n.gcd d) W hs rfl h1 (by rw [sz_txt]; exact hgl) hgp
 have hdd := fun W => refDivMag_any t ⟨(af (n.gcd d)).toArray⟩ d (n.gcd d) W ht rfl h2 (by rw [sz_txt]; exact hgl) hgp
 generalize n.gcd d = g at *;obtain ⟨n', hn'⟩ : ∃ n', n / g = n' := ⟨_, rfl⟩
 obtain ⟨d', hd'⟩ : ∃ d', d / g = d' := ⟨_, rfl⟩
 rw [hn'] at hn HQ;rw [hd'] at hdd HQ;clear hn' hd' hs ht hgl;have HA0 : Hid (Below w.heap.size w (w.alloc (.cells #[.bool false, .string ⟨#[]⟩, .string ⟨#[]⟩] 90))) := hid ((Below.refl _ _).alloc (Nat.le_refl _) _);have HR0 : Hid ((w.alloc (.cells #[.bool false, .string ⟨#[]⟩, .string ⟨#[]⟩] 90)).heap[w.heap.size]? = some (.cells #[.bool false, .string ⟨#[]⟩, .string ⟨#[]⟩] 90 (0, 0))) := hid (heap_alloc_new w _)
 go_enter Tryz.func58, Tryz.ntmps58
 go_wp2_with fail
 refine (hg _).mono ?_;rintro e w1 ⟨rfl, hb1⟩;have HB1 := hid (HA0.out.trans (hb1.mono (by simp)));have HR1 := hid ((hb1.block _ (ab HR0.out)).trans HR0.out);clear hb1 hg
 go_wp2_with fail
 refine (hn _).mono ?_;rintro e w2 ⟨rfl, hb2⟩;have HB2 := hid (HB1.out.trans (hb2.mono HB1.out.size));have HR2 := hid ((hb2.block _ (ab HR1.out)).trans HR1.out);clear hb2 hn
 go_wp2_with fail
 refine (hdd _).mono ?_;rintro e w3 ⟨rfl, hb3⟩;have HB3 := hid (HB2.out.trans (hb3.mono HB2.out.size));have HR3 := hid ((hb3.block _ (ab HR2.out)).trans HR2.out);obtain ⟨c0, c1, c2⟩ : w3.cell? ⟨w.heap.size, 0, none⟩ = some (.bool false) ∧ w3.cell? ⟨w.heap.size, 1, none⟩ = some (.string ⟨#[]⟩) ∧ w3.cell? ⟨w.heap.size, 2, none⟩ = some (.string ⟨#[]⟩) := ⟨aa HR3.out 0, aa HR3.out 1, aa HR3.out 2⟩
 have f0 := ah HR3.out 0;have f1 := ah HR3.out 1;have f2 := ah HR3.out 2;clear hb3 hdd;cases neg
 · go_wp2_with fail
   exact end_r3 Tryz.results58 rfl rfl HR3.out HB3.out (Nat.le_refl _) (fun w3 h => ⟨by rw [HQ.out, Bool.false_and], h⟩)
 · by_cases h0 : n' = 0
   · subst h0;have h48 : (af 0 == [48]) = true := by rw [decN_zero]; rfl
     go_wp2_with fail
     exact end_r3 Tryz.results58 rfl rfl HR3.out HB3.out (Nat.le_refl _) (fun w3 h => ⟨by rw [HQ.out, Bool.true_and]; rfl, h⟩)
   · have h48 : (af n' == [48]) = false := by rw [beq_eq_false_iff_ne, ne_eq, decN_eq_zero]; exact h0
     go_wp2_with fail
     exact end_r3 Tryz.results58 rfl rfl HR3.out HB3.out (Nat.le_refl _) (fun w3 h => ⟨by rw [HQ.out, Bool.true_and, decide_eq_true h0], h⟩)
theorem app_data (a b : ByteArray) : (a ++ b).data.toList = a.data.toList ++ b.data.toList := by rw [ByteArray.data_append, Array.toList_append]
theorem refText_any (q : Rat) (w : World) (h1 : (af q.num.natAbs).length ≤ 1000000) (h2 : (af q.den).length ≤ 1000000) : Calls Tryz.prog 60 #[ratV q] w fun e w' => e = .returned (.string ⟨(aK q).toArray⟩) ∧ Below w.heap.size w w' := by
 have HT : Hid (aK q = _) := hid (textQ_form q);obtain ⟨a, ha⟩ : ∃ a : ByteArray, (⟨(af q.num.natAbs).toArray⟩ : ByteArray) = a := ⟨_, rfl⟩
 obtain ⟨b, hb⟩ : ∃ b : ByteArray, (⟨(af q.den).toArray⟩ : ByteArray) = b := ⟨_, rfl⟩
 have hal : a.size ≤ 1000000 := by rw [← ha, sz_txt]; exact h1
 have hbl : b.size ≤ 1000000 := by rw [← hb, sz_txt]; exact h2
 have HA : Hid (a.data.toList = af q.num.natAbs) := hid (by rw [← ha]);have HB : Hid (b.data.toList = af q.den) := hid (by rw [← hb]);have hbt : b.toList = af q.den := by rw [ByteArray.toList_eq, HB.out]
 unfold ratV;rw [ha, hb];have HBE : Hid (Below w.heap.size w (w.alloc (.cells #[.bool (decide (q.num < 0)), .string a, .string b] 90))) := hid ((Below.refl _ _).alloc (Nat.le_refl _) _);clear ha hb
 by_cases hn : q.num < 0
 · rw [decide_eq_true hn] at HBE ⊢;have hs1 : ((⟨#[45]⟩ : ByteArray) ++ a).size ≤ 1000001 := by rw [ByteArray.size_append]; show 1 + a.size ≤ _; omega
   by_cases hd : q.den = 1
   · have h49 : (b.toList == [49]) = true := by rw [hbt, hd, decN_one]; rfl
     have HE : Hid ((⟨#[45]⟩ : ByteArray) ++ a = ⟨(aK q).toArray⟩) := hid (ba_eq _ _ (by rw [app_data, HA.out, HT.out, if_pos hn, if_pos hd, List.append_nil]));clear hbt hd hn
     go_enter Tryz.func60, Tryz.ntmps60
     go_wp2
     go_ret
     exact ⟨au HE.out, HBE.out⟩
   · have h49 : (b.toList == [49]) = false := by rw [beq_eq_false_iff_ne, hbt, ne_eq, decN_eq_one]; exact hd
     have HE : Hid ((⟨#[45]⟩ : ByteArray) ++ a ++ ((⟨#[47]⟩ : ByteArray) ++ b) = ⟨(aK q).toArray⟩) := hid (ba_eq _ _ (by rw [app_data, app_data, app_data, HA.out, HB.out, HT.out, if_pos hn, if_neg hd]; simp));clear hbt hd hn
     go_enter Tryz.func60, Tryz.ntmps60
     go_wp2
     go_ret
     exact ⟨au HE.out, HBE.out⟩
 · rw [decide_eq_false hn] at HBE ⊢
   by_cases hd : q.den = 1
   · have h49 : (b.toList == [49]) = true := by rw [hbt, hd, decN_one]; rfl
     have HE : Hid (a = ⟨(aK q).toArray⟩) := hid (ba_eq _ _ (by rw [HA.out, HT.out, if_neg hn, if_pos hd, List.append_nil, List.nil_append]));clear hbt hd hn
     go_enter Tryz.func60, Tryz.ntmps60
     go_wp2
     go_ret
     exact ⟨au HE.out, HBE.out⟩
   · have h49 : (b.toList == [49]) = false := by rw [beq_eq_false_iff_ne, hbt, ne_eq, decN_eq_one]; exact hd
     have HE : Hid (a ++ ((⟨#[47]⟩ : ByteArray) ++ b) = ⟨(aK q).toArray⟩) := hid (ba_eq _ _ (by rw [app_data, app_data, HA.out, HB.out, HT.out, if_neg hn, if_neg hd]; simp));clear hbt hd hn
     go_enter Tryz.func60, Tryz.ntmps60
     go_wp2
     go_ret
     exact ⟨au HE.out, HBE.out⟩
end
end Go.Proofs.YteoklapcifonaaaGreatDoor

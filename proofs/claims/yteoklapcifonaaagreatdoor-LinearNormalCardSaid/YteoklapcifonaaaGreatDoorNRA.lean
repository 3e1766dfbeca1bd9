/- Bytes and texts in memory, for the reference's walks. -/
import Derived.Test.YteoklapcifonaaaGreatDoorNNB
import Derived.Deep.DeepCutAuto
import Derived.Deep.RegionHeld3
import Derived.Deep.LoopGhost
import Derived.Test.YteoklapcifonaaaGreatDoorNNA
open Go.Lib (hid)
namespace Go.Proofs.YteoklapcifonaaaGreatDoor.Rf
open Go.RowKit Nmx
theorem size_data (s : ByteArray) : s.data.toList.length = s.size := by rw [Array.length_toList]; rfl
theorem ex_data (s : ByteArray) (a b : Nat) : (s.extract a b).data.toList = (s.data.toList.drop a).take (b - a) := by
 rw [ByteArray.data_extract, Array.toList_extract]
theorem isE (s : ByteArray) : s.toList.isEmpty = decide (s.size = 0) := by
 rw [ByteArray.toList_eq, ← size_data];cases s.data.toList <;> simp
theorem byte_at (s : ByteArray) (k : Nat) (h : k < s.size) : s.data.toList[k]? = some s[k] := by
 rw [List.getElem?_eq_getElem (by rw [size_data]; exact h)]; rfl
theorem take_all (s : ByteArray) (k : Nat) (h : k < s.size) (ha : (s.data.toList.take k).all isD = true) (hc : isD s[k] = true) : (s.data.toList.take (k + 1)).all isD = true := by
 rw [List.take_add_one, byte_at s k h, List.all_append, ha]; simpa using hc
theorem not_all (s : ByteArray) (k : Nat) (h : k < s.size) (hc : isD s[k] = false) : s.data.toList.all isD = false := by
 rw [List.all_eq_false];exact ⟨s[k], List.mem_of_getElem? (byte_at s k h), by rw [hc]; simp⟩
def bcs (l : List UInt8) : List Value := l.map fun b => Value.int .u8 (b.toNat : Int)
theorem bcs_append (a b : List UInt8) : bcs (a ++ b) = bcs a ++ bcs b := by simp [bcs]
theorem infoU8 : (Tryz.prog.info? 5).map (fun i => (i.zero, i.size, i.bytes)) = some (some (.int .u8 0), 1, 1) := by kernel_rfl
theorem sz_txt (l : List UInt8) : (⟨l.toArray⟩ : ByteArray).size = l.length := by simp [ByteArray.size]
end Go.Proofs.YteoklapcifonaaaGreatDoor.Rf
namespace Go.Proofs.YteoklapcifonaaaGreatDoor
open Go.RowKit Nmx
open Rf
theorem bcs_set (l : List UInt8) (i : Nat) (c : UInt8) : (bcs l).toArray.setIfInBounds i (.int .u8 (c.toNat : Int)) = (bcs (l.set i c)).toArray := by
 simp [bcs, List.map_set]
theorem bcs_at (l : List UInt8) (i : Nat) (hi : i < l.length) : (bcs l)[i]? = some (.int .u8 ((l.getD i 0).toNat : Int)) := by
 simp [bcs, List.getD_eq_getElem?_getD, hi]
/-- a block of bytes of the call's own -/
def BR (w : World) (g : Nat) (l : List UInt8) : Prop := w.heap[g]? = some (.cells (bcs l).toArray 5 (0, 0))
theorem BR.set {w : World} {g : Nat} {l : List UInt8} (h : BR w g l) (i : Nat) (c : UInt8) (z : Int) (hz : z = c.toNat) : BR (w.setCell ⟨g, i, none⟩ (.int .u8 z)) g (l.set i c) := by
 subst hz;unfold BR;rw [← bcs_set]; exact av h i _
theorem BR.cell {w : World} {g : Nat} {l : List UInt8} (h : BR w g l) (i : Nat) (hi : i < l.length) : w.cell? ⟨g, i, none⟩ = some (.int .u8 ((l.getD i 0).toNat : Int)) := by
 rw [aa h i]; simpa using bcs_at l i hi
theorem BR.fz {w : World} {g : Nat} {l : List UInt8} (h : BR w g l) (i : Nat) : w.frozen? ⟨g, i, none⟩ = false := ah h i
theorem BR.new (w : World) (l : List UInt8) : BR (w.alloc (.cells (bcs l).toArray 5)) w.heap.size l := heap_alloc_new w _
theorem BR.far {w w' : World} {g : Nat} {l : List UInt8} (h : BR w g l) (hb : Below w.heap.size w w') : BR w' g l := (hb.block g (ab h)).trans h
theorem made_u8 (n : Nat) : madeCells (Value.cells (.int .u8 0)) (n * 1) = (bcs (List.replicate n 0)).toArray := by
 apply Array.ext
 · simp [madeCells, bcs]
 · intro i h1 h2
   simp [madeCells, bcs, Value.cells, Nat.mod_one]
theorem mk_row (n : Nat) (hn : n ≤ 1000000000) (z : Int) (hz : z = n) (W : World) :
    (Instr.makeSlice 94 (.int .i64 z) (.int .i64 z)).run Tryz.prog W = .ok (.slice (some ⟨W.heap.size, 0, none⟩) n n) (W.alloc (.cells (bcs (List.replicate n 0)).toArray 5)) := by
 subst hz;obtain ⟨i0, hi, hz0, hz1, hz2⟩ := info_parts infoU8;have hr := run_make (P := Tryz.prog) W 94 5 i0 _ Tryz.underlying94 hi hz0 .i64 .i64 n n (by omega) (by omega) (by rw [hz2]; omega) (by omega);rw [hz1, Int.toNat_natCast, made_u8] at hr;exact hr
theorem conv_row {w : World} {g : Nat} {l : List UInt8} (h : BR w g l) (n : Nat) (hn : n = l.length) : Sem.run Tryz.prog (convert 94 9 (.slice (some ⟨g, 0, none⟩) n n)) w = .ok (.string ⟨l.toArray⟩) w := by
 subst hn
 exact run_convert_bytes_back (P := Tryz.prog) w 94 9 5 ⟨g, 0, none⟩ l.length l Tryz.underlying94 Tryz.underlying5 Tryz.underlying9 (fun j hj => by
  rw [Addr.add_lit];show w.cell? ⟨g, 0 + j, none⟩ = _
  rw [Nat.zero_add, h.cell j hj, List.getD_eq_getElem?_getD, List.getElem?_eq_getElem hj, Option.getD_some])
theorem less_eq : ∀ (x y : List UInt8), Op.bytesLess x y = decide (x < y)
 | [], [] => by simp [Op.bytesLess]
 | _ :: _, [] => by simp [Op.bytesLess]
 | [], _ :: _ => by simp [Op.bytesLess]
 | a :: x, b :: y => by
   rw [Op.bytesLess, less_eq x y, Bool.eq_iff_iff]
   simp [List.cons_lt_cons_iff]
/-- one or more digits -/
def digF (l : List UInt8) : Bool := l.all isD && decide (l ≠ [])
theorem ba_eq (s : ByteArray) (l : List UInt8) (h : s.data.toList = l) : s = ⟨l.toArray⟩ := by
 apply ByteArray.ext; apply Array.toList_inj.1; rw [h]
section
set_option maxRecDepth 100000
set_option maxHeartbeats 4000000
theorem aG (s : ByteArray) (w : World) (hs : s.size ≤ 1000000000) : Calls Tryz.prog 103 #[.string s] w fun e w' => e = .returned (.bool (digF s.data.toList)) ∧ w' = w := by
 have HN : Hid (s.data.toList = [] ↔ s.size = 0) := hid (by rw [← List.length_eq_zero_iff, size_data])
 go_enter Tryz.func103, Tryz.ntmps103
 go_wp2
 go_loop [3] (fun iv => ∃ k : Nat, k ≤ s.size ∧ iv = .int .i64 k ∧ (s.data.toList.take k).all isD = true) (fun iv => s.size - (intOf iv).toNat)
 case atStart => exact ⟨0, Nat.zero_le _, rfl, rfl⟩
 case round =>
  obtain ⟨k, hk, rfl, ha⟩ := hrel;have HA := hid ha;clear ha
  by_cases hlt : k < s.size
  · by_cases hd : isD s[k] = true
    · have h1 : ¬ (s[k].toNat : Int) < 48 := by have := bL.1 hd; omega
      have h2 : ¬ (57 : Int) < (s[k].toNat : Int) := by have := bL.1 hd; omega
      have HD := hid (take_all s k hlt HA.out hd);clear hd
      go_wp2
      go_round
      case rel => exact ⟨k + 1, by omega, by go_num, HD.out⟩
      case measure => simp [intOf]; omega
    · have hd' : isD s[k] = false := by simpa using hd
      have HR : Hid (digF s.data.toList = false) := hid (by unfold digF; rw [not_all s k hlt hd']; rfl)
      by_cases h1 : (s[k].toNat : Int) < 48
      · clear hd hd'
        go_wp2
        go_ret
        exact ⟨aX HR.out.symm, rfl⟩
      · have h2 : (57 : Int) < (s[k].toNat : Int) := by simp [isD] at hd'; omega
        clear hd hd'
        go_wp2
        go_ret
        exact ⟨aX HR.out.symm, rfl⟩
  · have hall : s.data.toList.all isD = true := by
      have := HA.out;rwa [List.take_of_length_le (by rw [size_data]; omega)] at this
    have HR : Hid (digF s.data.toList = !(decide (s.size = 0))) := hid (by
     unfold digF;rw [hall, Bool.true_and]
     by_cases h0 : s.size = 0
     · rw [decide_eq_true h0, decide_eq_false (by rw [ne_eq, HN.out]; exact fun h => h h0)]; rfl
     · rw [decide_eq_false h0, decide_eq_true (by rw [ne_eq, HN.out]; exact h0)]; rfl)
    clear hall
    go_wp2
    go_ret
    exact ⟨aX (by rw [HR.out, isE]), rfl⟩
theorem trimF_stop (l : List UInt8) (h : ¬ (1 < l.length ∧ l.headD 0 = 48)) : bE l = l := by
 match l, h with
 | [], _ => rfl
 | [c], _ => rfl
 | c :: d :: r, h =>
   unfold bE;exact if_neg (fun e => h ⟨by simp, e⟩)
theorem trimF_go (l : List UInt8) (h1 : 1 < l.length) (h : l.headD 0 = 48) : bE l = bE l.tail := by
 match l, h1, h with
 | c :: d :: r, _, h =>
   conv => lhs; unfold bE
   exact if_pos h
theorem headD_at (t : ByteArray) (h : 0 < t.size) : t.data.toList.headD 0 = t[0] := by
 rw [List.headD_eq_head?_getD, List.head?_eq_getElem?, byte_at t 0 h]; rfl
theorem aS (s : ByteArray) (w : World) (hs : s.size ≤ 1000000000) : Calls Tryz.prog 104 #[.string s] w fun e w' => e = .returned (.string ⟨(bE s.data.toList).toArray⟩) ∧ w' = w := by
 go_enter Tryz.func104, Tryz.ntmps104
 go_wp2
 go_loop [0] (fun v => ∃ t : ByteArray, v = .string t ∧ t.size ≤ 1000000000 ∧ bE t.data.toList = bE s.data.toList) (fun v => match v with | .string t => t.size | _ => 0)
 case atStart => exact ⟨s, rfl, hs, rfl⟩
 case round =>
  obtain ⟨t, rfl, ht, hr⟩ := hrel;have HR := hid hr;clear hr
  by_cases h1 : 1 < t.size
  · have h1i : (1 : Int) < (t.size : Int) := by omega
    have hh := headD_at t (by omega)
    by_cases h48 : t[0] = 48
    · have h48i : ((t[0].toNat : Int) == 48) = true := by rw [h48]; rfl
      have HS : Hid (bE (t.extract 1 t.size).data.toList = bE s.data.toList) := hid (by
       rw [← HR.out, trimF_go t.data.toList (by rw [size_data]; exact h1) (by rw [hh, h48]), ex_data, List.take_of_length_le (by rw [List.length_drop, size_data]; exact Nat.le_refl _), List.drop_one])
      have hsz : (t.extract 1 t.size).size = t.size - 1 := by rw [ByteArray.size_extract]; omega
      clear hh h48
      go_wp2
      go_round
      case rel => exact ⟨_, rfl, by rw [hsz]; omega, HS.out⟩
      case measure => simp only [hsz]; omega
    · have h48i : ((t[0].toNat : Int) == 48) = false := by
        simp only [beq_eq_false_iff_ne, ne_eq];intro e;exact h48 (UInt8.toNat_inj.1 (by have : (48 : UInt8).toNat = 48 := rfl; omega))
      have HS : Hid (t = ⟨(bE s.data.toList).toArray⟩) := hid (ba_eq _ _ (by rw [← HR.out, trimF_stop _ (by rw [hh]; exact fun h => h48 h.2)]));clear hh h48
      go_wp2
      go_ret
      exact ⟨au HS.out, rfl⟩
  · have h1i : ¬ (1 : Int) < (t.size : Int) := by omega
    have HS : Hid (t = ⟨(bE s.data.toList).toArray⟩) := hid (ba_eq _ _ (by rw [← HR.out, trimF_stop _ (by rw [size_data]; exact fun h => h1 h.1)]))
    go_wp2
    go_ret
    exact ⟨au HS.out, rfl⟩
theorem refTrim_any (s : ByteArray) (w : World) (hs : s.size ≤ 1000000000) : Calls Tryz.prog 104 #[.string s] w fun e w' => e = .returned (.string ⟨(bE s.data.toList).toArray⟩) ∧ Below w.heap.size w w' :=
 (aS s w hs).mono fun _ _ h => ⟨h.1, by rw [h.2]; exact Below.refl _ _⟩
theorem refCmpMag_any (s t : ByteArray) (x y : Nat) (w : World) (hs : s.data.toList = af x) (ht : t.data.toList = af y) : Calls Tryz.prog 139 #[.string s, .string t] w fun e w' => e = .returned (.int .i64 (cmpN x y)) ∧ Below w.heap.size w w' := by
 have hm := mag_lt x y;have hls : s.size = (af x).length := by rw [← hs, size_data]
 have hlt : t.size = (af y).length := by rw [← ht, size_data]
 have hbl : Op.bytesLess s.toList t.toList = decide (af x < af y) := by rw [ByteArray.toList_eq, ByteArray.toList_eq, less_eq, hs, ht]
 have heq : x ≠ y → ¬ s.toList = t.toList := fun hne e => hne (decN_inj (by rw [← hs, ← ht, ← ByteArray.toList_eq, e, ByteArray.toList_eq]))
 rcases Nat.lt_trichotomy x y with h | h | h
 · rw [decide_eq_true h] at hm;have HC := hid (cmpN_lt h);clear h
   by_cases h1 : s.size < t.size
   · have h1i : (s.size : Int) < (t.size : Int) := by omega
     clear hm hls hlt
     go_enter Tryz.func139, Tryz.ntmps139
     go_wp2
     go_ret
     exact ⟨bX HC.out.symm, Below.refl _ _⟩
   · have h1i : ¬ (s.size : Int) < (t.size : Int) := by omega
     rw [← hls, ← hlt, decide_eq_false h1, Bool.false_or, Bool.and_eq_true, decide_eq_true_eq] at hm;have h2 : ((s.size : Int) == (t.size : Int)) = true := by simp; omega
     rw [hm.2] at hbl;clear hm hls hlt
     go_enter Tryz.func139, Tryz.ntmps139
     go_wp2
     go_ret
     exact ⟨bX HC.out.symm, Below.refl _ _⟩
 · have HC := hid (cmpN_eq h);subst h;have hst : s = t := (ba_eq _ _ hs).trans (ba_eq _ _ ht).symm;subst hst;clear heq;have h1i : ¬ (s.size : Int) < (s.size : Int) := by omega
   have h2 : ((s.size : Int) == (s.size : Int)) = true := by simp
   have hll : decide (af x < af x) = false := decide_eq_false (by rw [lex_lt _ _ rfl (ay x) (ay x)]; omega);rw [hll] at hbl;clear hm hls hlt
   go_enter Tryz.func139, Tryz.ntmps139
   go_wp2
   go_ret
   exact ⟨bX HC.out.symm, Below.refl _ _⟩
 · rw [decide_eq_false (show ¬ x < y by omega)] at hm;have hne : (s.toList == t.toList) = false := by simpa using heq (by omega)
   clear heq;have HC := hid (cmpN_gt h);rw [← hls, ← hlt, Bool.or_eq_false_iff, decide_eq_false_iff_not] at hm;obtain ⟨h1, h2⟩ := hm;have h1i : ¬ (s.size : Int) < (t.size : Int) := by omega
   by_cases h3 : s.size = t.size
   · have h3i : ((s.size : Int) == (t.size : Int)) = true := by simp; omega
     rw [decide_eq_true h3, Bool.true_and] at h2;rw [h2] at hbl;clear hls hlt h1 h2 h3 h
     go_enter Tryz.func139, Tryz.ntmps139
     go_wp2
     go_ret
     exact ⟨bX HC.out.symm, Below.refl _ _⟩
   · have h3i : ((s.size : Int) == (t.size : Int)) = false := by simp; omega
     clear hls hlt h1 h2 h3 h
     go_enter Tryz.func139, Tryz.ntmps139
     go_wp2
     go_ret
     exact ⟨bX HC.out.symm, Below.refl _ _⟩
end
end Go.Proofs.YteoklapcifonaaaGreatDoor
namespace Go.Proofs.YteoklapcifonaaaGreatDoor
open Go.RowKit Nmx
open Rf
theorem di_get (s : ByteArray) (k : Nat) (hk : k < s.size) : di s.data.toList k = (s[s.size - 1 - k]'(by omega)).toNat - 48 := by
 have hl := size_data s;rw [di_at _ _ (by omega)];have := byte_at s (s.size - 1 - k) (by omega);rw [List.getElem?_eq_some_iff] at this;obtain ⟨_, h⟩ := this;rw [← h];simp only [hl]
theorem dig_get (s : ByteArray) (h : s.data.toList.all isD = true) (k : Nat) (hk : k < s.size) : 48 ≤ (s[k]).toNat ∧ (s[k]).toNat ≤ 57 := by
 have := byte_at s k hk;exact bL.1 (List.all_eq_true.1 h _ (List.mem_of_getElem? this))
section
set_option maxRecDepth 100000
set_option maxHeartbeats 4000000
theorem refAddMag_lt (s t : ByteArray) (x y : Nat) (w : World) (hs : s.data.toList = af x) (ht : t.data.toList = af y) (h1 : s.size ≤ 1000000) (h2 : t.size ≤ 1000000) (hle : s.size < t.size) : Calls Tryz.prog 138 #[.string s, .string t] w fun e w' => e = .returned (.string ⟨(af (x + y)).toArray⟩) ∧ Below w.heap.size w w' := by
 have HDA : Hid (s.data.toList.all isD = true) := hid (by rw [hs]; exact ay x);have HDB : Hid (t.data.toList.all isD = true) := hid (by rw [ht]; exact ay y);have HV : Hid (dv s.data.toList = x ∧ dv t.data.toList = y) := hid (by rw [hs, ht, bu, bu]; exact ⟨rfl, rfl⟩);clear hs ht;obtain ⟨n, hn⟩ : ∃ n, t.size + 1 = n := ⟨_, rfl⟩
 have hn1 : s.size < n := by omega
 have hn2 : t.size < n := by omega
 have hn3 : n ≤ 1000001 := by omega
 have hmi : (t.size : Int) + 1 = (n : Int) := by omega
 have hmk := mk_row n (by omega) (n : Int) rfl;have HST := hid (BR.new w (List.replicate n 0));have HBE : Hid (Below w.heap.size w (w.alloc (.cells (bcs (List.replicate n 0)).toArray 5))) := hid ((Below.refl _ _).alloc (Nat.le_refl _) _);have HS0 : Hid (AddD s.data.toList t.data.toList (List.replicate n 0) n 0 0) := hid (AddD.start _ _ _ n List.length_replicate);clear hn
 go_enter Tryz.func138, Tryz.ntmps138
 go_wp2
 go_loopw [7, 8] (fun c i wr => ∃ (k cc : Nat) (q : List UInt8), k ≤ n ∧ i = .int .i64 k ∧ c = .int .i64 cc ∧ AddD s.data.toList t.data.toList q n k cc ∧ BR wr w.heap.size q ∧ Below w.heap.size w wr) (fun _ i _ => n - (intOf i).toNat)
 case atStart => exact ⟨0, 0, _, Nat.zero_le _, rfl, rfl, HS0.out, HST.out, HBE.out⟩
 case round =>
  obtain ⟨k, cc, q, hk, rfl, rfl, hadd, hbr, hbel⟩ := hrel;have HR := hid hadd;have HW := hid hbr;have HBl := hid hbel;have hql := hadd.len;have hc1 : (cc : Int) ≤ 1 := by have := hadd.c1; omega
  have hc0 : (0 : Int) ≤ cc := by omega
  clear hadd hbr hbel HST HBE HS0
  by_cases hlt : k < n
  · have hcw := HW.out.cell (n - 1 - k) (by omega);have hfw := HW.out.fz (n - 1 - k);have p0 : (0 : Int) ≤ (n : Int) - 1 - (k : Int) := by omega
    have p1 : ((n : Int) - 1 - (k : Int)).toNat = n - 1 - k := by omega
    have p2 : (n : Int) - 1 - (k : Int) < (n : Int) := by omega
    generalize q.getD (n - 1 - k) 0 = z at *;have HSP : Hid (∀ u, u = cc + di s.data.toList k + di t.data.toList k → AddD s.data.toList t.data.toList (q.set (n - 1 - k) (dg (u % 10))) n (k + 1) (u / 10)) := hid (fun u hu => HR.out.step HDA.out HDB.out hlt u hu);have hdgt : ∀ u : Nat, ((48 + u % 10 : Nat) : Int) = ((dg (u % 10)).toNat : Int) := fun u => by rw [bB (Nat.mod_lt _ (by omega))]
    have HDG := hid hdgt;clear hdgt
    by_cases ha' : k < s.size
    · skip
      by_cases hb' : k < t.size
      · skip
        have ai : (k : Int) < (s.size : Int) := by omega
        have a0 : (0 : Int) ≤ (s.size : Int) - 1 - (k : Int) := by omega
        have a1 : ((s.size : Int) - 1 - (k : Int)).toNat = s.size - 1 - k := by omega
        have a2 : (s.size : Int) - 1 - (k : Int) < (s.size : Int) := by omega
        have hda := dig_get s HDA.out (s.size - 1 - k) (by omega);have HDI := hid (di_get s k ha');have bi : (k : Int) < (t.size : Int) := by omega
        have b0 : (0 : Int) ≤ (t.size : Int) - 1 - (k : Int) := by omega
        have b1 : ((t.size : Int) - 1 - (k : Int)).toNat = t.size - 1 - k := by omega
        have b2 : (t.size : Int) - 1 - (k : Int) < (t.size : Int) := by omega
        have hdb := dig_get t HDB.out (t.size - 1 - k) (by omega);have HDJ := hid (di_get t k hb')
        go_wp2
        obtain ⟨u, hu⟩ : ∃ u, cc + di s.data.toList k + di t.data.toList k = u := ⟨_, rfl⟩
        have hE : (cc : Int) + ((s[s.size - 1 - k].toNat : Int) - 48) + ((t[t.size - 1 - k].toNat : Int) - 48) = (u : Int) := by rw [← hu, HDI.out, HDJ.out]; omega
        rw [hE];exact ⟨⟨k + 1, u / 10, q.set (n - 1 - k) (dg (u % 10)), by omega, by go_num, rfl, HSP.out u hu.symm, HW.out.set _ _ _ (by rw [← HDG.out u]; omega), HBl.out.setCell (Nat.le_refl _) _⟩, by simp [intOf]; omega⟩
      · exfalso; omega
    · skip
      by_cases hb' : k < t.size
      · skip
        have ai : ¬ (k : Int) < (s.size : Int) := by omega
        have HDI := hid (di_out s.data.toList k (by rw [size_data]; exact ha'));have bi : (k : Int) < (t.size : Int) := by omega
        have b0 : (0 : Int) ≤ (t.size : Int) - 1 - (k : Int) := by omega
        have b1 : ((t.size : Int) - 1 - (k : Int)).toNat = t.size - 1 - k := by omega
        have b2 : (t.size : Int) - 1 - (k : Int) < (t.size : Int) := by omega
        have hdb := dig_get t HDB.out (t.size - 1 - k) (by omega);have HDJ := hid (di_get t k hb')
        go_wp2
        obtain ⟨u, hu⟩ : ∃ u, cc + di s.data.toList k + di t.data.toList k = u := ⟨_, rfl⟩
        have hE : (cc : Int) + ((t[t.size - 1 - k].toNat : Int) - 48) = (u : Int) := by rw [← hu, HDI.out, HDJ.out]; omega
        rw [hE];exact ⟨⟨k + 1, u / 10, q.set (n - 1 - k) (dg (u % 10)), by omega, by go_num, rfl, HSP.out u hu.symm, HW.out.set _ _ _ (by rw [← HDG.out u]; omega), HBl.out.setCell (Nat.le_refl _) _⟩, by simp [intOf]; omega⟩
      · skip
        have ai : ¬ (k : Int) < (s.size : Int) := by omega
        have HDI := hid (di_out s.data.toList k (by rw [size_data]; exact ha'));have bi : ¬ (k : Int) < (t.size : Int) := by omega
        have HDJ := hid (di_out t.data.toList k (by rw [size_data]; exact hb'))
        go_wp2
        obtain ⟨u, hu⟩ : ∃ u, cc + di s.data.toList k + di t.data.toList k = u := ⟨_, rfl⟩
        have hE : (cc : Int) = (u : Int) := by rw [← hu, HDI.out, HDJ.out]; omega
        rw [hE];exact ⟨⟨k + 1, u / 10, q.set (n - 1 - k) (dg (u % 10)), by omega, by go_num, rfl, HSP.out u hu.symm, HW.out.set _ _ _ (by rw [← HDG.out u]; omega), HBl.out.setCell (Nat.le_refl _) _⟩, by simp [intOf]; omega⟩
  · obtain rfl : k = n := by omega
    have HD : Hid (bE q = af (x + y)) := hid (by rw [HR.out.done HDA.out HDB.out (by rw [size_data]; omega) (by rw [size_data]; omega), HV.out.1, HV.out.2]);have hcv := conv_row HW.out k hql.symm;have htr := refTrim_any ⟨q.toArray⟩ wr (by rw [sz_txt]; omega);rw [show (⟨q.toArray⟩ : ByteArray).data.toList = q from rfl, HD.out] at htr
    go_wp2_with fail
    refine htr.mono ?_;rintro e w1 ⟨rfl, hb1⟩;have HB1 := hid (HBl.out.trans (hb1.mono HBl.out.size));clear hb1 htr hcv
    go_wp2
    go_ret
    exact ⟨rfl, HB1.out⟩
theorem refAddMag_ge (s t : ByteArray) (x y : Nat) (w : World) (hs : s.data.toList = af x) (ht : t.data.toList = af y) (h1 : s.size ≤ 1000000) (h2 : t.size ≤ 1000000) (hle : t.size ≤ s.size) : Calls Tryz.prog 138 #[.string s, .string t] w fun e w' => e = .returned (.string ⟨(af (x + y)).toArray⟩) ∧ Below w.heap.size w w' := by
 have HDA : Hid (s.data.toList.all isD = true) := hid (by rw [hs]; exact ay x);have HDB : Hid (t.data.toList.all isD = true) := hid (by rw [ht]; exact ay y);have HV : Hid (dv s.data.toList = x ∧ dv t.data.toList = y) := hid (by rw [hs, ht, bu, bu]; exact ⟨rfl, rfl⟩);clear hs ht;obtain ⟨n, hn⟩ : ∃ n, s.size + 1 = n := ⟨_, rfl⟩
 have hn1 : s.size < n := by omega
 have hn2 : t.size < n := by omega
 have hn3 : n ≤ 1000001 := by omega
 have hmi : (s.size : Int) + 1 = (n : Int) := by omega
 have hmk := mk_row n (by omega) (n : Int) rfl;have HST := hid (BR.new w (List.replicate n 0));have HBE : Hid (Below w.heap.size w (w.alloc (.cells (bcs (List.replicate n 0)).toArray 5))) := hid ((Below.refl _ _).alloc (Nat.le_refl _) _);have HS0 : Hid (AddD s.data.toList t.data.toList (List.replicate n 0) n 0 0) := hid (AddD.start _ _ _ n List.length_replicate);clear hn
 go_enter Tryz.func138, Tryz.ntmps138
 go_wp2
 go_loopw [7, 8] (fun c i wr => ∃ (k cc : Nat) (q : List UInt8), k ≤ n ∧ i = .int .i64 k ∧ c = .int .i64 cc ∧ AddD s.data.toList t.data.toList q n k cc ∧ BR wr w.heap.size q ∧ Below w.heap.size w wr) (fun _ i _ => n - (intOf i).toNat)
 case atStart => exact ⟨0, 0, _, Nat.zero_le _, rfl, rfl, HS0.out, HST.out, HBE.out⟩
 case round =>
  obtain ⟨k, cc, q, hk, rfl, rfl, hadd, hbr, hbel⟩ := hrel;have HR := hid hadd;have HW := hid hbr;have HBl := hid hbel;have hql := hadd.len;have hc1 : (cc : Int) ≤ 1 := by have := hadd.c1; omega
  have hc0 : (0 : Int) ≤ cc := by omega
  clear hadd hbr hbel HST HBE HS0
  by_cases hlt : k < n
  · have hcw := HW.out.cell (n - 1 - k) (by omega);have hfw := HW.out.fz (n - 1 - k);have p0 : (0 : Int) ≤ (n : Int) - 1 - (k : Int) := by omega
    have p1 : ((n : Int) - 1 - (k : Int)).toNat = n - 1 - k := by omega
    have p2 : (n : Int) - 1 - (k : Int) < (n : Int) := by omega
    generalize q.getD (n - 1 - k) 0 = z at *;have HSP : Hid (∀ u, u = cc + di s.data.toList k + di t.data.toList k → AddD s.data.toList t.data.toList (q.set (n - 1 - k) (dg (u % 10))) n (k + 1) (u / 10)) := hid (fun u hu => HR.out.step HDA.out HDB.out hlt u hu);have hdgt : ∀ u : Nat, ((48 + u % 10 : Nat) : Int) = ((dg (u % 10)).toNat : Int) := fun u => by rw [bB (Nat.mod_lt _ (by omega))]
    have HDG := hid hdgt;clear hdgt
    by_cases ha' : k < s.size
    · skip
      by_cases hb' : k < t.size
      · skip
        have ai : (k : Int) < (s.size : Int) := by omega
        have a0 : (0 : Int) ≤ (s.size : Int) - 1 - (k : Int) := by omega
        have a1 : ((s.size : Int) - 1 - (k : Int)).toNat = s.size - 1 - k := by omega
        have a2 : (s.size : Int) - 1 - (k : Int) < (s.size : Int) := by omega
        have hda := dig_get s HDA.out (s.size - 1 - k) (by omega);have HDI := hid (di_get s k ha');have bi : (k : Int) < (t.size : Int) := by omega
        have b0 : (0 : Int) ≤ (t.size : Int) - 1 - (k : Int) := by omega
        have b1 : ((t.size : Int) - 1 - (k : Int)).toNat = t.size - 1 - k := by omega
        have b2 : (t.size : Int) - 1 - (k : Int) < (t.size : Int) := by omega
        have hdb := dig_get t HDB.out (t.size - 1 - k) (by omega);have HDJ := hid (di_get t k hb')
        go_wp2
        obtain ⟨u, hu⟩ : ∃ u, cc + di s.data.toList k + di t.data.toList k = u := ⟨_, rfl⟩
        have hE : (cc : Int) + ((s[s.size - 1 - k].toNat : Int) - 48) + ((t[t.size - 1 - k].toNat : Int) - 48) = (u : Int) := by rw [← hu, HDI.out, HDJ.out]; omega
        rw [hE];exact ⟨⟨k + 1, u / 10, q.set (n - 1 - k) (dg (u % 10)), by omega, by go_num, rfl, HSP.out u hu.symm, HW.out.set _ _ _ (by rw [← HDG.out u]; omega), HBl.out.setCell (Nat.le_refl _) _⟩, by simp [intOf]; omega⟩
      · skip
        have ai : (k : Int) < (s.size : Int) := by omega
        have a0 : (0 : Int) ≤ (s.size : Int) - 1 - (k : Int) := by omega
        have a1 : ((s.size : Int) - 1 - (k : Int)).toNat = s.size - 1 - k := by omega
        have a2 : (s.size : Int) - 1 - (k : Int) < (s.size : Int) := by omega
        have hda := dig_get s HDA.out (s.size - 1 - k) (by omega);have HDI := hid (di_get s k ha');have bi : ¬ (k : Int) < (t.size : Int) := by omega
        have HDJ := hid (di_out t.data.toList k (by rw [size_data]; exact hb'))
        go_wp2
        obtain ⟨u, hu⟩ : ∃ u, cc + di s.data.toList k + di t.data.toList k = u := ⟨_, rfl⟩
        have hE : (cc : Int) + ((s[s.size - 1 - k].toNat : Int) - 48) = (u : Int) := by rw [← hu, HDI.out, HDJ.out]; omega
        rw [hE];exact ⟨⟨k + 1, u / 10, q.set (n - 1 - k) (dg (u % 10)), by omega, by go_num, rfl, HSP.out u hu.symm, HW.out.set _ _ _ (by rw [← HDG.out u]; omega), HBl.out.setCell (Nat.le_refl _) _⟩, by simp [intOf]; omega⟩
    · skip
      by_cases hb' : k < t.size
      · exfalso; omega
      · skip
        have ai : ¬ (k : Int) < (s.size : Int) := by omega
        have HDI := hid (di_out s.data.toList k (by rw [size_data]; exact ha'));have bi : ¬ (k : Int) < (t.size : Int) := by omega
        have HDJ := hid (di_out t.data.toList k (by rw [size_data]; exact hb'))
        go_wp2
        obtain ⟨u, hu⟩ : ∃ u, cc + di s.data.toList k + di t.data.toList k = u := ⟨_, rfl⟩
        have hE : (cc : Int) = (u : Int) := by rw [← hu, HDI.out, HDJ.out]; omega
        rw [hE];exact ⟨⟨k + 1, u / 10, q.set (n - 1 - k) (dg (u % 10)), by omega, by go_num, rfl, HSP.out u hu.symm, HW.out.set _ _ _ (by rw [← HDG.out u]; omega), HBl.out.setCell (Nat.le_refl _) _⟩, by simp [intOf]; omega⟩
  · obtain rfl : k = n := by omega
    have HD : Hid (bE q = af (x + y)) := hid (by rw [HR.out.done HDA.out HDB.out (by rw [size_data]; omega) (by rw [size_data]; omega), HV.out.1, HV.out.2]);have hcv := conv_row HW.out k hql.symm;have htr := refTrim_any ⟨q.toArray⟩ wr (by rw [sz_txt]; omega);rw [show (⟨q.toArray⟩ : ByteArray).data.toList = q from rfl, HD.out] at htr
    go_wp2_with fail
    refine htr.mono ?_;rintro e w1 ⟨rfl, hb1⟩;have HB1 := hid (HBl.out.trans (hb1.mono HBl.out.size));clear hb1 htr hcv
    go_wp2
    go_ret
    exact ⟨rfl, HB1.out⟩
theorem refAddMag_any (s t : ByteArray) (x y : Nat) (w : World) (hs : s.data.toList = af x) (ht : t.data.toList = af y) (h1 : s.size ≤ 1000000) (h2 : t.size ≤ 1000000) : Calls Tryz.prog 138 #[.string s, .string t] w fun e w' => e = .returned (.string ⟨(af (x + y)).toArray⟩) ∧ Below w.heap.size w w' := by
 by_cases h : s.size < t.size
 · exact refAddMag_lt s t x y w hs ht h1 h2 h
 · exact refAddMag_ge s t x y w hs ht h1 h2 (by omega)
end
end Go.Proofs.YteoklapcifonaaaGreatDoor
namespace Go.Proofs.YteoklapcifonaaaGreatDoor
open Go.RowKit Nmx
open Rf
section
set_option maxRecDepth 100000
set_option maxHeartbeats 4000000
theorem refSubMag_any (s t : ByteArray) (x y : Nat) (w : World) (hs : s.data.toList = af x) (ht : t.data.toList = af y) (h1 : s.size ≤ 1000000) (hle : y ≤ x) : Calls Tryz.prog 140 #[.string s, .string t] w fun e w' => e = .returned (.string ⟨(af (x - y)).toArray⟩) ∧ Below w.heap.size w w' := by
 have HDA : Hid (s.data.toList.all isD = true) := hid (by rw [hs]; exact ay x);have HDB : Hid (t.data.toList.all isD = true) := hid (by rw [ht]; exact ay y);have HV : Hid (dv s.data.toList = x ∧ dv t.data.toList = y) := hid (by rw [hs, ht, bu, bu]; exact ⟨rfl, rfl⟩);have h0 : 0 < s.size := by rw [← size_data, hs]; exact decN_len_pos x
 have h2 : t.size ≤ s.size := by
  rw [← size_data, ← size_data, hs, ht];rcases Nat.lt_or_ge (af x).length (af y).length with h | h
  · have := len_lt h; omega
  · exact h
 have HLE := hid hle;clear hs ht hle;have hmk := mk_row s.size (by omega) (s.size : Int) rfl;have HST := hid (BR.new w (List.replicate s.size 0));have HBE : Hid (Below w.heap.size w (w.alloc (.cells (bcs (List.replicate s.size 0)).toArray 5))) := hid ((Below.refl _ _).alloc (Nat.le_refl _) _);have HS0 : Hid (SubD s.data.toList t.data.toList (List.replicate s.size 0) s.size 0 0) := hid (SubD.start _ _ _ s.size List.length_replicate)
 go_enter Tryz.func140, Tryz.ntmps140
 go_wp2
 go_loopw [6, 7] (fun c i wr => ∃ (k cc : Nat) (q : List UInt8), k ≤ s.size ∧ i = .int .i64 k ∧ c = .int .i64 cc ∧ SubD s.data.toList t.data.toList q s.size k cc ∧ BR wr w.heap.size q ∧ Below w.heap.size w wr) (fun _ i _ => s.size - (intOf i).toNat)
 case atStart => exact ⟨0, 0, _, Nat.zero_le _, rfl, rfl, HS0.out, HST.out, HBE.out⟩
 case round =>
  obtain ⟨k, cc, q, hk, rfl, rfl, hadd, hbr, hbel⟩ := hrel;have HR := hid hadd;have HW := hid hbr;have HBl := hid hbel;have hql := hadd.len;have hc1 : (cc : Int) ≤ 1 := by have := hadd.c1; omega
  have hc0 : (0 : Int) ≤ cc := by omega
  clear hadd hbr hbel HST HBE HS0
  by_cases hlt : k < s.size
  · have hcw := HW.out.cell (s.size - 1 - k) (by omega);have hfw := HW.out.fz (s.size - 1 - k);have ai : (k : Int) < (s.size : Int) := by omega
    have a0 : (0 : Int) ≤ (s.size : Int) - 1 - (k : Int) := by omega
    have a1 : ((s.size : Int) - 1 - (k : Int)).toNat = s.size - 1 - k := by omega
    have a2 : (s.size : Int) - 1 - (k : Int) < (s.size : Int) := by omega
    have hda := dig_get s HDA.out (s.size - 1 - k) (by omega);have HDI := hid (di_get s k hlt);generalize q.getD (s.size - 1 - k) 0 = z at *;have HSP : Hid (∀ u c', u + cc + di t.data.toList k = di s.data.toList k + 10 * c' → u < 10 → c' ≤ 1 → SubD s.data.toList t.data.toList (q.set (s.size - 1 - k) (dg u)) s.size (k + 1) c') := hid (fun u c' hu h10 hc => HR.out.step hlt u c' hu h10 hc)
    by_cases hb : k < t.size
    · have bi : (k : Int) < (t.size : Int) := by omega
      have b0 : (0 : Int) ≤ (t.size : Int) - 1 - (k : Int) := by omega
      have b1 : ((t.size : Int) - 1 - (k : Int)).toNat = t.size - 1 - k := by omega
      have b2 : (t.size : Int) - 1 - (k : Int) < (t.size : Int) := by omega
      have hdb := dig_get t HDB.out (t.size - 1 - k) (by omega);have HDJ := hid (di_get t k hb)
      by_cases hneg : ((s[s.size - 1 - k].toNat : Int) - 48) - (cc : Int) - ((t[t.size - 1 - k].toNat : Int) - 48) < 0
      · obtain ⟨u, hu⟩ : ∃ u : Nat, ((s[s.size - 1 - k].toNat : Int) - 48) - (cc : Int) - ((t[t.size - 1 - k].toNat : Int) - 48) + 10 = (u : Int) := ⟨(((s[s.size - 1 - k].toNat : Int) - 48) - (cc : Int) - ((t[t.size - 1 - k].toNat : Int) - 48) + 10).toNat, by omega⟩
        have hu10 : u < 10 := by omega
        have HST := hid (HSP.out u 1 (by have h1 := HDI.out; have h2 := HDJ.out; omega) hu10 (by omega));have HDG : Hid ((48 + u : Int) = ((dg u).toNat : Int)) := hid (by rw [bB hu10]; omega)
        go_wp2
        try rw [hu]
        exact ⟨⟨k + 1, 1, q.set (s.size - 1 - k) (dg u), by omega, by go_num, rfl, HST.out, HW.out.set _ _ _ HDG.out, HBl.out.setCell (Nat.le_refl _) _⟩, by simp [intOf]; omega⟩
      · obtain ⟨u, hu⟩ : ∃ u : Nat, ((s[s.size - 1 - k].toNat : Int) - 48) - (cc : Int) - ((t[t.size - 1 - k].toNat : Int) - 48) = (u : Int) := ⟨(((s[s.size - 1 - k].toNat : Int) - 48) - (cc : Int) - ((t[t.size - 1 - k].toNat : Int) - 48)).toNat, by omega⟩
        have hu10 : u < 10 := by omega
        have HST := hid (HSP.out u 0 (by have h1 := HDI.out; have h2 := HDJ.out; omega) hu10 (by omega));have HDG : Hid ((48 + u : Int) = ((dg u).toNat : Int)) := hid (by rw [bB hu10]; omega)
        go_wp2
        try rw [hu]
        exact ⟨⟨k + 1, 0, q.set (s.size - 1 - k) (dg u), by omega, by go_num, rfl, HST.out, HW.out.set _ _ _ HDG.out, HBl.out.setCell (Nat.le_refl _) _⟩, by simp [intOf]; omega⟩
    · have bi : ¬ (k : Int) < (t.size : Int) := by omega
      have HDJ := hid (di_out t.data.toList k (by rw [size_data]; exact hb))
      by_cases hneg : ((s[s.size - 1 - k].toNat : Int) - 48) - (cc : Int) < 0
      · obtain ⟨u, hu⟩ : ∃ u : Nat, ((s[s.size - 1 - k].toNat : Int) - 48) - (cc : Int) + 10 = (u : Int) := ⟨(((s[s.size - 1 - k].toNat : Int) - 48) - (cc : Int) + 10).toNat, by omega⟩
        have hu10 : u < 10 := by omega
        have HST := hid (HSP.out u 1 (by have h1 := HDI.out; have h2 := HDJ.out; omega) hu10 (by omega));have HDG : Hid ((48 + u : Int) = ((dg u).toNat : Int)) := hid (by rw [bB hu10]; omega)
        go_wp2
        try rw [hu]
        exact ⟨⟨k + 1, 1, q.set (s.size - 1 - k) (dg u), by omega, by go_num, rfl, HST.out, HW.out.set _ _ _ HDG.out, HBl.out.setCell (Nat.le_refl _) _⟩, by simp [intOf]; omega⟩
      · obtain ⟨u, hu⟩ : ∃ u : Nat, ((s[s.size - 1 - k].toNat : Int) - 48) - (cc : Int) = (u : Int) := ⟨(((s[s.size - 1 - k].toNat : Int) - 48) - (cc : Int)).toNat, by omega⟩
        have hu10 : u < 10 := by omega
        have HST := hid (HSP.out u 0 (by have h1 := HDI.out; have h2 := HDJ.out; omega) hu10 (by omega));have HDG : Hid ((48 + u : Int) = ((dg u).toNat : Int)) := hid (by rw [bB hu10]; omega)
        go_wp2
        try rw [hu]
        exact ⟨⟨k + 1, 0, q.set (s.size - 1 - k) (dg u), by omega, by go_num, rfl, HST.out, HW.out.set _ _ _ HDG.out, HBl.out.setCell (Nat.le_refl _) _⟩, by simp [intOf]; omega⟩
  · obtain rfl : k = s.size := by omega
    have HD : Hid (bE q = af (x - y)) := hid (by rw [HR.out.done h0 (by rw [size_data]; exact Nat.le_refl _) (by rw [size_data]; exact h2) (by rw [HV.out.1, HV.out.2]; exact HLE.out), HV.out.1, HV.out.2]);have hcv := conv_row HW.out s.size hql.symm;have htr := refTrim_any ⟨q.toArray⟩ wr (by rw [sz_txt]; omega);rw [show (⟨q.toArray⟩ : ByteArray).data.toList = q from rfl, HD.out] at htr
    go_wp2_with fail
    refine htr.mono ?_;rintro e w1 ⟨rfl, hb1⟩;have HB1 := hid (HBl.out.trans (hb1.mono HBl.out.size));clear hb1 htr hcv
    go_wp2
    go_ret
    exact ⟨rfl, HB1.out⟩
end
end Go.Proofs.YteoklapcifonaaaGreatDoor

/- Bytes and texts in memory, for the reference's walks. -/
import Derived.Test.YthefknoicelhaaaGreatDoorFNB
import Derived.Deep.DeepCutAuto
import Derived.Deep.RegionHeld3
import Derived.Deep.LoopGhost
import Derived.StillTailTactics
namespace Go.Proofs.YthefknoicelhaaaGreatDoor.Rf
open Go.RowKit Nmx
theorem size_data (s : ByteArray) : s.data.toList.length = s.size := by rw [Array.length_toList]; rfl
theorem ex_data (s : ByteArray) (a b : Nat) : (s.extract a b).data.toList = (s.data.toList.drop a).take (b - a) := by
  rw [ByteArray.data_extract, Array.toList_extract]
theorem isE (s : ByteArray) : s.toList.isEmpty = decide (s.size = 0) := by
  rw [ByteArray.toList_eq, ← size_data]
  cases s.data.toList <;> simp
theorem byte_at (s : ByteArray) (k : Nat) (h : k < s.size) : s.data.toList[k]? = some s[k] := by
  rw [List.getElem?_eq_getElem (by rw [size_data]; exact h)]; rfl
theorem take_all (s : ByteArray) (k : Nat) (h : k < s.size) (ha : (s.data.toList.take k).all isD = true) (hc : isD s[k] = true) : (s.data.toList.take (k + 1)).all isD = true := by
  rw [List.take_add_one, byte_at s k h, List.all_append, ha]; simpa using hc
theorem not_all (s : ByteArray) (k : Nat) (h : k < s.size) (hc : isD s[k] = false) : s.data.toList.all isD = false := by
  rw [List.all_eq_false]
  exact ⟨s[k], List.mem_of_getElem? (byte_at s k h), by rw [hc]; simp⟩
def bcs (l : List UInt8) : List Value := l.map fun b => Value.int .u8 (b.toNat : Int)
theorem infoU8 : (Tryz.prog.info? 5).map (fun i => (i.zero, i.size, i.bytes)) = some (some (.int .u8 0), 1, 1) := by kernel_rfl
theorem sz_txt (l : List UInt8) : (⟨l.toArray⟩ : ByteArray).size = l.length := by simp [ByteArray.size]

end Go.Proofs.YthefknoicelhaaaGreatDoor.Rf
namespace Go.Proofs.YthefknoicelhaaaGreatDoor
open Go.RowKit Nmx
open Rf

theorem bcs_set (l : List UInt8) (i : Nat) (c : UInt8) : (bcs l).toArray.setIfInBounds i (.int .u8 (c.toNat : Int)) = (bcs (l.set i c)).toArray := by
  simp [bcs, List.map_set]
theorem bcs_at (l : List UInt8) (i : Nat) (hi : i < l.length) : (bcs l)[i]? = some (.int .u8 ((l.getD i 0).toNat : Int)) := by
  simp [bcs, List.getD_eq_getElem?_getD, hi]
/-- a block of bytes of the call's own -/
def BR (w : World) (g : Nat) (l : List UInt8) : Prop := w.heap[g]? = some (.cells (bcs l).toArray 5 (0, 0))
theorem BR.set {w : World} {g : Nat} {l : List UInt8} (h : BR w g l) (i : Nat) (c : UInt8) (z : Int) (hz : z = c.toNat) : BR (w.setCell ⟨g, i, none⟩ (.int .u8 z)) g (l.set i c) := by
  subst hz
  unfold BR
  rw [← bcs_set]; exact heap_set h i _
theorem BR.cell {w : World} {g : Nat} {l : List UInt8} (h : BR w g l) (i : Nat) (hi : i < l.length) : w.cell? ⟨g, i, none⟩ = some (.int .u8 ((l.getD i 0).toNat : Int)) := by
  rw [heap_cell h i]; simpa using bcs_at l i hi
theorem BR.fz {w : World} {g : Nat} {l : List UInt8} (h : BR w g l) (i : Nat) : w.frozen? ⟨g, i, none⟩ = false := heap_fz h i
theorem BR.new (w : World) (l : List UInt8) : BR (w.alloc (.cells (bcs l).toArray 5)) w.heap.size l := heap_alloc_new w _
theorem BR.far {w w' : World} {g : Nat} {l : List UInt8} (h : BR w g l) (hb : Below w.heap.size w w') : BR w' g l := (hb.block g (lt_of_heap h)).trans h
theorem made_u8 (n : Nat) : madeCells (Value.cells (.int .u8 0)) (n * 1) = (bcs (List.replicate n 0)).toArray := by
  apply Array.ext
  · simp [madeCells, bcs]
  · intro i h1 h2
    simp [madeCells, bcs, Value.cells, Nat.mod_one]
theorem mk_row (n : Nat) (hn : n ≤ 1000000000) (z : Int) (hz : z = n) (W : World) :
    (Instr.makeSlice 73 (.int .i64 z) (.int .i64 z)).run Tryz.prog W = .ok (.slice (some ⟨W.heap.size, 0, none⟩) n n) (W.alloc (.cells (bcs (List.replicate n 0)).toArray 5)) := by
  subst hz
  obtain ⟨i0, hi, hz0, hz1, hz2⟩ := info_parts infoU8
  have hr := run_make (P := Tryz.prog) W 73 5 i0 _ Tryz.underlying73 hi hz0 .i64 .i64 n n (by omega) (by omega) (by rw [hz2]; omega) (by omega)
  rw [hz1, Int.toNat_natCast, made_u8] at hr
  exact hr
theorem conv_row {w : World} {g : Nat} {l : List UInt8} (h : BR w g l) (n : Nat) (hn : n = l.length) : Sem.run Tryz.prog (convert 73 9 (.slice (some ⟨g, 0, none⟩) n n)) w = .ok (.string ⟨l.toArray⟩) w := by
  subst hn
  exact run_convert_bytes_back (P := Tryz.prog) w 73 9 5 ⟨g, 0, none⟩ l.length l Tryz.underlying73 Tryz.underlying5 Tryz.underlying9 (fun j hj => by
    rw [Addr.add_lit]
    show w.cell? ⟨g, 0 + j, none⟩ = _
    rw [Nat.zero_add, h.cell j hj, List.getD_eq_getElem?_getD, List.getElem?_eq_getElem hj, Option.getD_some])
theorem less_eq : ∀ (x y : List UInt8), Op.bytesLess x y = decide (x < y)
  | [], [] => by simp [Op.bytesLess]
  | _ :: _, [] => by simp [Op.bytesLess]
  | [], _ :: _ => by simp [Op.bytesLess]
  | a :: x, b :: y => by
    rw [Op.bytesLess, less_eq x y, Bool.eq_iff_iff]
    simp [List.cons_lt_cons_iff]
/-- one or more digits -/
def digF (l : List UInt8) : Bool := l.all isD && decide (l ≠ [])
theorem ba_eq (s : ByteArray) (l : List UInt8) (h : s.data.toList = l) : s = ⟨l.toArray⟩ := by
  apply ByteArray.ext; apply Array.toList_inj.1; rw [h]
section
set_option maxRecDepth 100000
set_option maxHeartbeats 4000000
theorem refDigits_same (s : ByteArray) (w : World) (hs : s.size ≤ 1000000000) : Calls Tryz.prog 120 #[.string s] w fun e w' => e = .returned (.bool (digF s.data.toList)) ∧ w' = w := by
  have HN : Hid (s.data.toList = [] ↔ s.size = 0) := Lib.hid (by rw [← List.length_eq_zero_iff, size_data])
  go_enter Tryz.func120, Tryz.ntmps120
  go_wp2
  go_loop [3] (fun iv => ∃ k : Nat, k ≤ s.size ∧ iv = .int .i64 k ∧ (s.data.toList.take k).all isD = true) (fun iv => s.size - (intOf iv).toNat)
  case atStart => exact ⟨0, Nat.zero_le _, rfl, rfl⟩
  case round =>
    obtain ⟨k, hk, rfl, ha⟩ := hrel
    have HA := Lib.hid ha
    clear ha
    by_cases hlt : k < s.size
    · by_cases hd : isD s[k] = true
      · have h1 : ¬ (s[k].toNat : Int) < 48 := by have := isD_iff.1 hd; omega
        have h2 : ¬ (57 : Int) < (s[k].toNat : Int) := by have := isD_iff.1 hd; omega
        have HD := Lib.hid (take_all s k hlt HA.out hd)
        clear hd
        go_wp2
        go_round
        case rel => exact ⟨k + 1, by omega, by go_num, HD.out⟩
        case measure => simp [intOf]; omega
      · have hd' : isD s[k] = false := by simpa using hd
        have HR : Hid (digF s.data.toList = false) := Lib.hid (by unfold digF; rw [not_all s k hlt hd']; rfl)
        by_cases h1 : (s[k].toNat : Int) < 48
        · clear hd hd'
          go_wp2
          go_ret
          exact ⟨ret_bool HR.out.symm, rfl⟩
        · have h2 : (57 : Int) < (s[k].toNat : Int) := by simp [isD] at hd'; omega
          clear hd hd'
          go_wp2
          go_ret
          exact ⟨ret_bool HR.out.symm, rfl⟩
    · have hall : s.data.toList.all isD = true := by
        have := HA.out
        rwa [List.take_of_length_le (by rw [size_data]; omega)] at this
      have HR : Hid (digF s.data.toList = !(decide (s.size = 0))) := Lib.hid (by
        unfold digF
        rw [hall, Bool.true_and]
        by_cases h0 : s.size = 0
        · rw [decide_eq_true h0, decide_eq_false (by rw [ne_eq, HN.out]; exact fun h => h h0)]; rfl
        · rw [decide_eq_false h0, decide_eq_true (by rw [ne_eq, HN.out]; exact h0)]; rfl)
      clear hall
      go_wp2
      go_ret
      exact ⟨ret_bool (by rw [HR.out, isE]), rfl⟩

theorem trimF_stop (l : List UInt8) (h : ¬ (1 < l.length ∧ l.headD 0 = 48)) : trimF l = l := by
  match l, h with
  | [], _ => rfl
  | [c], _ => rfl
  | c :: d :: r, h =>
    unfold trimF
    exact if_neg (fun e => h ⟨by simp, e⟩)
theorem trimF_go (l : List UInt8) (h1 : 1 < l.length) (h : l.headD 0 = 48) : trimF l = trimF l.tail := by
  match l, h1, h with
  | c :: d :: r, _, h =>
    conv => lhs; unfold trimF
    exact if_pos h
theorem headD_at (t : ByteArray) (h : 0 < t.size) : t.data.toList.headD 0 = t[0] := by
  rw [List.headD_eq_head?_getD, List.head?_eq_getElem?, byte_at t 0 h]; rfl
theorem refTrim_same (s : ByteArray) (w : World) (hs : s.size ≤ 1000000000) : Calls Tryz.prog 121 #[.string s] w fun e w' => e = .returned (.string ⟨(trimF s.data.toList).toArray⟩) ∧ w' = w := by
  go_enter Tryz.func121, Tryz.ntmps121
  go_wp2
  go_loop [0] (fun v => ∃ t : ByteArray, v = .string t ∧ t.size ≤ 1000000000 ∧ trimF t.data.toList = trimF s.data.toList) (fun v => match v with | .string t => t.size | _ => 0)
  case atStart => exact ⟨s, rfl, hs, rfl⟩
  case round =>
    obtain ⟨t, rfl, ht, hr⟩ := hrel
    have HR := Lib.hid hr
    clear hr
    by_cases h1 : 1 < t.size
    · have h1i : (1 : Int) < (t.size : Int) := by omega
      have hh := headD_at t (by omega)
      by_cases h48 : t[0] = 48
      · have h48i : ((t[0].toNat : Int) == 48) = true := by rw [h48]; rfl
        have HS : Hid (trimF (t.extract 1 t.size).data.toList = trimF s.data.toList) := Lib.hid (by
          rw [← HR.out, trimF_go t.data.toList (by rw [size_data]; exact h1) (by rw [hh, h48]), ex_data, List.take_of_length_le (by rw [List.length_drop, size_data]; exact Nat.le_refl _), List.drop_one])
        have hsz : (t.extract 1 t.size).size = t.size - 1 := by rw [ByteArray.size_extract]; omega
        clear hh h48
        go_wp2
        go_round
        case rel => exact ⟨_, rfl, by rw [hsz]; omega, HS.out⟩
        case measure => simp only [hsz]; omega
      · have h48i : ((t[0].toNat : Int) == 48) = false := by
          simp only [beq_eq_false_iff_ne, ne_eq]
          intro e
          exact h48 (UInt8.toNat_inj.1 (by have : (48 : UInt8).toNat = 48 := rfl; omega))
        have HS : Hid (t = ⟨(trimF s.data.toList).toArray⟩) := Lib.hid (ba_eq _ _ (by rw [← HR.out, trimF_stop _ (by rw [hh]; exact fun h => h48 h.2)]))
        clear hh h48
        go_wp2
        go_ret
        exact ⟨ret_str HS.out, rfl⟩
    · have h1i : ¬ (1 : Int) < (t.size : Int) := by omega
      have HS : Hid (t = ⟨(trimF s.data.toList).toArray⟩) := Lib.hid (ba_eq _ _ (by rw [← HR.out, trimF_stop _ (by rw [size_data]; exact fun h => h1 h.1)]))
      go_wp2
      go_ret
      exact ⟨ret_str HS.out, rfl⟩
theorem refTrim_any (s : ByteArray) (w : World) (hs : s.size ≤ 1000000000) : Calls Tryz.prog 121 #[.string s] w fun e w' => e = .returned (.string ⟨(trimF s.data.toList).toArray⟩) ∧ Below w.heap.size w w' :=
  (refTrim_same s w hs).mono fun _ _ h => ⟨h.1, by rw [h.2]; exact Below.refl _ _⟩
theorem refCmpMag_any (s t : ByteArray) (x y : Nat) (w : World) (hs : s.data.toList = decN x) (ht : t.data.toList = decN y) : Calls Tryz.prog 141 #[.string s, .string t] w fun e w' => e = .returned (.int .i64 (cmpN x y)) ∧ Below w.heap.size w w' := by
  have hm := mag_lt x y
  have hls : s.size = (decN x).length := by rw [← hs, size_data]
  have hlt : t.size = (decN y).length := by rw [← ht, size_data]
  have hbl : Op.bytesLess s.toList t.toList = decide (decN x < decN y) := by rw [ByteArray.toList_eq, ByteArray.toList_eq, less_eq, hs, ht]
  have heq : x ≠ y → ¬ s.toList = t.toList := fun hne e => hne (decN_inj (by rw [← hs, ← ht, ← ByteArray.toList_eq, e, ByteArray.toList_eq]))
  rcases Nat.lt_trichotomy x y with h | h | h
  · rw [decide_eq_true h] at hm
    have HC := Lib.hid (cmpN_lt h)
    clear h
    by_cases h1 : s.size < t.size
    · have h1i : (s.size : Int) < (t.size : Int) := by omega
      clear hm hls hlt
      go_enter Tryz.func141, Tryz.ntmps141
      go_wp2
      go_ret
      exact ⟨ret_int HC.out.symm, Below.refl _ _⟩
    · have h1i : ¬ (s.size : Int) < (t.size : Int) := by omega
      rw [← hls, ← hlt, decide_eq_false h1, Bool.false_or, Bool.and_eq_true, decide_eq_true_eq] at hm
      have h2 : ((s.size : Int) == (t.size : Int)) = true := by simp; omega
      rw [hm.2] at hbl
      clear hm hls hlt
      go_enter Tryz.func141, Tryz.ntmps141
      go_wp2
      go_ret
      exact ⟨ret_int HC.out.symm, Below.refl _ _⟩
  · have HC := Lib.hid (cmpN_eq h)
    subst h
    have hst : s = t := (ba_eq _ _ hs).trans (ba_eq _ _ ht).symm
    subst hst
    clear heq
    have h1i : ¬ (s.size : Int) < (s.size : Int) := by omega
    have h2 : ((s.size : Int) == (s.size : Int)) = true := by simp
    have hll : decide (decN x < decN x) = false := decide_eq_false (by rw [lex_lt _ _ rfl (decN_digits x) (decN_digits x)]; omega)
    rw [hll] at hbl
    clear hm hls hlt
    go_enter Tryz.func141, Tryz.ntmps141
    go_wp2
    go_ret
    exact ⟨ret_int HC.out.symm, Below.refl _ _⟩
  · rw [decide_eq_false (show ¬ x < y by omega)] at hm
    have hne : (s.toList == t.toList) = false := by simpa using heq (by omega)
    clear heq
    have HC := Lib.hid (cmpN_gt h)
    rw [← hls, ← hlt, Bool.or_eq_false_iff, decide_eq_false_iff_not] at hm
    obtain ⟨h1, h2⟩ := hm
    have h1i : ¬ (s.size : Int) < (t.size : Int) := by omega
    by_cases h3 : s.size = t.size
    · have h3i : ((s.size : Int) == (t.size : Int)) = true := by simp; omega
      rw [decide_eq_true h3, Bool.true_and] at h2
      rw [h2] at hbl
      clear hls hlt h1 h2 h3 h
      go_enter Tryz.func141, Tryz.ntmps141
      go_wp2
      go_ret
      exact ⟨ret_int HC.out.symm, Below.refl _ _⟩
    · have h3i : ((s.size : Int) == (t.size : Int)) = false := by simp; omega
      clear hls hlt h1 h2 h3 h
      go_enter Tryz.func141, Tryz.ntmps141
      go_wp2
      go_ret
      exact ⟨ret_int HC.out.symm, Below.refl _ _⟩
end
end Go.Proofs.YthefknoicelhaaaGreatDoor
namespace Go.Proofs.YthefknoicelhaaaGreatDoor
open Go.RowKit Nmx
open Rf

theorem di_get (s : ByteArray) (k : Nat) (hk : k < s.size) : di s.data.toList k = (s[s.size - 1 - k]'(by omega)).toNat - 48 := by
  have hl := size_data s
  rw [di_at _ _ (by omega)]
  have := byte_at s (s.size - 1 - k) (by omega)
  rw [List.getElem?_eq_some_iff] at this
  obtain ⟨_, h⟩ := this
  rw [← h]
  simp only [hl]
theorem dig_get (s : ByteArray) (h : s.data.toList.all isD = true) (k : Nat) (hk : k < s.size) : 48 ≤ (s[k]).toNat ∧ (s[k]).toNat ≤ 57 := by
  have := byte_at s k hk
  exact isD_iff.1 (List.all_eq_true.1 h _ (List.mem_of_getElem? this))
end Go.Proofs.YthefknoicelhaaaGreatDoor
namespace Go.Proofs.YthefknoicelhaaaGreatDoor
open Go.RowKit Nmx
open Rf

section
set_option maxRecDepth 100000
set_option maxHeartbeats 4000000
theorem refSubMag_any (s t : ByteArray) (x y : Nat) (w : World) (hs : s.data.toList = decN x) (ht : t.data.toList = decN y) (h1 : s.size ≤ 1000000) (hle : y ≤ x) : Calls Tryz.prog 142 #[.string s, .string t] w fun e w' => e = .returned (.string ⟨(decN (x - y)).toArray⟩) ∧ Below w.heap.size w w' := by
  have HDA : Hid (s.data.toList.all isD = true) := Lib.hid (by rw [hs]; exact decN_digits x)
  have HDB : Hid (t.data.toList.all isD = true) := Lib.hid (by rw [ht]; exact decN_digits y)
  have HV : Hid (dv s.data.toList = x ∧ dv t.data.toList = y) := Lib.hid (by rw [hs, ht, dv_decN, dv_decN]; exact ⟨rfl, rfl⟩)
  have h0 : 0 < s.size := by rw [← size_data, hs]; exact decN_len_pos x
  have h2 : t.size ≤ s.size := by
    rw [← size_data, ← size_data, hs, ht]
    rcases Nat.lt_or_ge (decN x).length (decN y).length with h | h
    · have := len_lt h; omega
    · exact h
  have HLE := Lib.hid hle
  clear hs ht hle
  have hmk := mk_row s.size (by omega) (s.size : Int) rfl
  have HST := Lib.hid (BR.new w (List.replicate s.size 0))
  have HBE : Hid (Below w.heap.size w (w.alloc (.cells (bcs (List.replicate s.size 0)).toArray 5))) := Lib.hid ((Below.refl _ _).alloc (Nat.le_refl _) _)
  have HS0 : Hid (SubD s.data.toList t.data.toList (List.replicate s.size 0) s.size 0 0) := Lib.hid (SubD.start _ _ _ s.size List.length_replicate)
  go_enter Tryz.func142, Tryz.ntmps142
  go_wp2
  go_loopw [6, 7] (fun c i wr => ∃ (k cc : Nat) (q : List UInt8), k ≤ s.size ∧ i = .int .i64 k ∧ c = .int .i64 cc ∧ SubD s.data.toList t.data.toList q s.size k cc ∧ BR wr w.heap.size q ∧ Below w.heap.size w wr) (fun _ i _ => s.size - (intOf i).toNat)
  case atStart => exact ⟨0, 0, _, Nat.zero_le _, rfl, rfl, HS0.out, HST.out, HBE.out⟩
  case round =>
    obtain ⟨k, cc, q, hk, rfl, rfl, hadd, hbr, hbel⟩ := hrel
    have HR := Lib.hid hadd
    have HW := Lib.hid hbr
    have HBl := Lib.hid hbel
    have hql := hadd.len
    have hc1 : (cc : Int) ≤ 1 := by have := hadd.c1; omega
    have hc0 : (0 : Int) ≤ cc := by omega
    clear hadd hbr hbel HST HBE HS0
    by_cases hlt : k < s.size
    · have hcw := HW.out.cell (s.size - 1 - k) (by omega)
      have hfw := HW.out.fz (s.size - 1 - k)
      have ai : (k : Int) < (s.size : Int) := by omega
      have a0 : (0 : Int) ≤ (s.size : Int) - 1 - (k : Int) := by omega
      have a1 : ((s.size : Int) - 1 - (k : Int)).toNat = s.size - 1 - k := by omega
      have a2 : (s.size : Int) - 1 - (k : Int) < (s.size : Int) := by omega
      have hda := dig_get s HDA.out (s.size - 1 - k) (by omega)
      have HDI := Lib.hid (di_get s k hlt)
      generalize q.getD (s.size - 1 - k) 0 = z at *
      have HSP : Hid (∀ u c', u + cc + di t.data.toList k = di s.data.toList k + 10 * c' → u < 10 → c' ≤ 1 → SubD s.data.toList t.data.toList (q.set (s.size - 1 - k) (dg u)) s.size (k + 1) c') := Lib.hid (fun u c' hu h10 hc => HR.out.step hlt u c' hu h10 hc)
      by_cases hb : k < t.size
      · have bi : (k : Int) < (t.size : Int) := by omega
        have b0 : (0 : Int) ≤ (t.size : Int) - 1 - (k : Int) := by omega
        have b1 : ((t.size : Int) - 1 - (k : Int)).toNat = t.size - 1 - k := by omega
        have b2 : (t.size : Int) - 1 - (k : Int) < (t.size : Int) := by omega
        have hdb := dig_get t HDB.out (t.size - 1 - k) (by omega)
        have HDJ := Lib.hid (di_get t k hb)
        by_cases hneg : ((s[s.size - 1 - k].toNat : Int) - 48) - (cc : Int) - ((t[t.size - 1 - k].toNat : Int) - 48) < 0
        · obtain ⟨u, hu⟩ : ∃ u : Nat, ((s[s.size - 1 - k].toNat : Int) - 48) - (cc : Int) - ((t[t.size - 1 - k].toNat : Int) - 48) + 10 = (u : Int) := ⟨(((s[s.size - 1 - k].toNat : Int) - 48) - (cc : Int) - ((t[t.size - 1 - k].toNat : Int) - 48) + 10).toNat, by omega⟩
          have hu10 : u < 10 := by omega
          have HST := Lib.hid (HSP.out u 1 (by have h1 := HDI.out; have h2 := HDJ.out; omega) hu10 (by omega))
          have HDG : Hid ((48 + u : Int) = ((dg u).toNat : Int)) := Lib.hid (by rw [dg_toNat hu10]; omega)
          go_wp2
          try rw [hu]
          exact ⟨⟨k + 1, 1, q.set (s.size - 1 - k) (dg u), by omega, by go_num, rfl, HST.out, HW.out.set _ _ _ HDG.out, HBl.out.setCell (Nat.le_refl _) _⟩, by simp [intOf]; omega⟩
        · obtain ⟨u, hu⟩ : ∃ u : Nat, ((s[s.size - 1 - k].toNat : Int) - 48) - (cc : Int) - ((t[t.size - 1 - k].toNat : Int) - 48) = (u : Int) := ⟨(((s[s.size - 1 - k].toNat : Int) - 48) - (cc : Int) - ((t[t.size - 1 - k].toNat : Int) - 48)).toNat, by omega⟩
          have hu10 : u < 10 := by omega
          have HST := Lib.hid (HSP.out u 0 (by have h1 := HDI.out; have h2 := HDJ.out; omega) hu10 (by omega))
          have HDG : Hid ((48 + u : Int) = ((dg u).toNat : Int)) := Lib.hid (by rw [dg_toNat hu10]; omega)
          go_wp2
          try rw [hu]
          exact ⟨⟨k + 1, 0, q.set (s.size - 1 - k) (dg u), by omega, by go_num, rfl, HST.out, HW.out.set _ _ _ HDG.out, HBl.out.setCell (Nat.le_refl _) _⟩, by simp [intOf]; omega⟩
      · have bi : ¬ (k : Int) < (t.size : Int) := by omega
        have HDJ := Lib.hid (di_out t.data.toList k (by rw [size_data]; exact hb))
        by_cases hneg : ((s[s.size - 1 - k].toNat : Int) - 48) - (cc : Int) < 0
        · obtain ⟨u, hu⟩ : ∃ u : Nat, ((s[s.size - 1 - k].toNat : Int) - 48) - (cc : Int) + 10 = (u : Int) := ⟨(((s[s.size - 1 - k].toNat : Int) - 48) - (cc : Int) + 10).toNat, by omega⟩
          have hu10 : u < 10 := by omega
          have HST := Lib.hid (HSP.out u 1 (by have h1 := HDI.out; have h2 := HDJ.out; omega) hu10 (by omega))
          have HDG : Hid ((48 + u : Int) = ((dg u).toNat : Int)) := Lib.hid (by rw [dg_toNat hu10]; omega)
          go_wp2
          try rw [hu]
          exact ⟨⟨k + 1, 1, q.set (s.size - 1 - k) (dg u), by omega, by go_num, rfl, HST.out, HW.out.set _ _ _ HDG.out, HBl.out.setCell (Nat.le_refl _) _⟩, by simp [intOf]; omega⟩
        · obtain ⟨u, hu⟩ : ∃ u : Nat, ((s[s.size - 1 - k].toNat : Int) - 48) - (cc : Int) = (u : Int) := ⟨(((s[s.size - 1 - k].toNat : Int) - 48) - (cc : Int)).toNat, by omega⟩
          have hu10 : u < 10 := by omega
          have HST := Lib.hid (HSP.out u 0 (by have h1 := HDI.out; have h2 := HDJ.out; omega) hu10 (by omega))
          have HDG : Hid ((48 + u : Int) = ((dg u).toNat : Int)) := Lib.hid (by rw [dg_toNat hu10]; omega)
          go_wp2
          try rw [hu]
          exact ⟨⟨k + 1, 0, q.set (s.size - 1 - k) (dg u), by omega, by go_num, rfl, HST.out, HW.out.set _ _ _ HDG.out, HBl.out.setCell (Nat.le_refl _) _⟩, by simp [intOf]; omega⟩
    · obtain rfl : k = s.size := by omega
      have HD : Hid (trimF q = decN (x - y)) := Lib.hid (by rw [HR.out.done h0 (by rw [size_data]; exact Nat.le_refl _) (by rw [size_data]; exact h2) (by rw [HV.out.1, HV.out.2]; exact HLE.out), HV.out.1, HV.out.2])
      have hcv := conv_row HW.out s.size hql.symm
      have htr := refTrim_any ⟨q.toArray⟩ wr (by rw [sz_txt]; omega)
      rw [show (⟨q.toArray⟩ : ByteArray).data.toList = q from rfl, HD.out] at htr
      go_wp2_with fail
      refine htr.mono ?_
      rintro e w1 ⟨rfl, hb1⟩
      have HB1 := Lib.hid (HBl.out.trans (hb1.mono HBl.out.size))
      clear hb1 htr hcv
      go_wp2
      go_ret
      exact ⟨rfl, HB1.out⟩
end
end Go.Proofs.YthefknoicelhaaaGreatDoor
/- The reference's mulMag. -/
namespace Go.Proofs.YthefknoicelhaaaGreatDoor
open Go.RowKit Nmx
open Rf

theorem infoInt : (Tryz.prog.info? 3).map (fun i => (i.zero, i.size, i.bytes)) = some (some (.int .i64 0), 1, 8) := by kernel_rfl
theorem fd_get (s : ByteArray) (k : Nat) (hk : k < s.size) : fd s.data.toList k = (s[k]).toNat - 48 := by
  have := byte_at s k hk
  unfold fd
  rw [List.getD_eq_getElem?_getD, this]; rfl
end Go.Proofs.YthefknoicelhaaaGreatDoor
namespace Go.Proofs.YthefknoicelhaaaGreatDoor
open Go.RowKit Nmx
open Rf

theorem tx_data (l : List UInt8) : (⟨l.toArray⟩ : ByteArray).data.toList = l := rfl
theorem dec_size {R B n : Nat} (h : R < B) (hB : (decN B).length ≤ n) : (decN R).length ≤ n := by
  rcases Nat.lt_or_ge n (decN R).length with h1 | h1
  · have := len_lt (m := B) (n := R) (by omega); omega
  · exact h1
theorem one_more (r s : ByteArray) (k : Nat) (hk : k < s.size) : (r ++ s.extract k (k + 1)).data.toList = r.data.toList ++ [s[k]] := by
  rw [ByteArray.data_append, Array.toList_append, ex_data]
  congr 1
  rw [Nat.add_sub_cancel_left, List.take_one, List.head?_drop, byte_at s k hk]; rfl
def strOf : Value → List UInt8
  | .string b => b.data.toList
  | _ => []
section
set_option maxRecDepth 100000
set_option maxHeartbeats 4000000
theorem refDivMag_any (s t : ByteArray) (x y : Nat) (w : World) (hs : s.data.toList = decN x) (ht : t.data.toList = decN y) (h1 : s.size ≤ 100000) (h2 : t.size ≤ 100000) (hy : 0 < y) : Calls Tryz.prog 139 #[.string s, .string t] w fun e w' => e = .returned (.tuple #[.string ⟨(decN (x / y)).toArray⟩, .string ⟨(decN (x % y)).toArray⟩]) ∧ Below w.heap.size w w' := by
  have HDA : Hid (s.data.toList.all isD = true) := Lib.hid (by rw [hs]; exact decN_digits x)
  have HV : Hid (dv s.data.toList = x) := Lib.hid (by rw [hs, dv_decN])
  have h0 : 0 < s.size := by rw [← size_data, hs]; exact decN_len_pos x
  have HLS := Lib.hid (size_data s)
  have HT := Lib.hid ht
  have HTL : Hid ((decN y).length = t.size) := Lib.hid (by rw [← ht, size_data])
  clear hs ht
  have hmr := mk_row s.size (by omega) (s.size : Int) rfl
  have HST := Lib.hid (BR.new w (List.replicate s.size 0))
  have HBE : Hid (Below w.heap.size w (w.alloc (.cells (bcs (List.replicate s.size 0)).toArray 5))) := Lib.hid ((Below.refl _ _).alloc (Nat.le_refl _) _)
  have HS0 : Hid (LdD s.data.toList y (List.replicate s.size 0) 0 0) := Lib.hid (LdD.start _ _ y (by rw [List.length_replicate, size_data]) hy)
  go_enter Tryz.func139, Tryz.ntmps139
  go_wp2
  go_loopw [7, 8] (fun rv i wr => ∃ (k R : Nat) (q : List UInt8) (rb : ByteArray), k ≤ s.size ∧ i = .int .i64 k ∧ rv = .string rb ∧ rb.data.toList = decN R ∧ LdD s.data.toList y q k R ∧ BR wr w.heap.size q ∧ Below w.heap.size w wr) (fun _ i _ => s.size - (intOf i).toNat)
  case atStart => exact ⟨0, 0, _, ⟨#[48]⟩, Nat.zero_le _, rfl, rfl, decN_zero.symm, HS0.out, HST.out, HBE.out⟩
  case round =>
    obtain ⟨k, R, q, rb, hk, rfl, rfl, hrb, hld, hbr, hbel⟩ := hrel
    have HRB := Lib.hid hrb
    have HR := Lib.hid hld
    have HW := Lib.hid hbr
    have HBl := Lib.hid hbel
    have hql : q.length = s.size := by rw [hld.len, HLS.out]
    have HRL := Lib.hid hld.r1
    have hrs : rb.size ≤ 100000 := by rw [← size_data, hrb]; exact dec_size hld.r1 (by rw [HTL.out]; exact h2)
    clear hrb hld hbr hbel HST HBE HS0
    by_cases hlt : k < s.size
    · have hda := dig_get s HDA.out k hlt
      have HDI := Lib.hid (fd_get s k hlt)
      have HD1 : Hid (isD s[k] = true) := Lib.hid (isD_iff.2 hda)
      have hx1 : (s.extract k (k + 1)).size = 1 := by rw [ByteArray.size_extract]; omega
      have HAPP := Lib.hid (one_more rb s k hlt)
      have hsz : (rb ++ s.extract k (k + 1)).size = rb.size + 1 := by rw [ByteArray.size_append, hx1]
      have htr := refTrim_any (rb ++ s.extract k (k + 1)) wr (by omega)
      rw [HAPP.out, HRB.out, trim_push R _ HD1.out, ← HDI.out] at htr
      have hi1 : (k : Int) + 1 ≤ (s.size : Int) := by omega
      clear hda
      go_wp2_with fail
      refine htr.mono ?_
      rintro e w1 ⟨rfl, hb1⟩
      have HW1 := Lib.hid (HW.out.far hb1)
      have HB1 := Lib.hid (HBl.out.trans (hb1.mono HBl.out.size))
      have HFD : Hid (fd s.data.toList k < 10) := Lib.hid (fd_lt _ HDA.out k)
      clear hb1 htr hsz hx1
      obtain ⟨d, hd⟩ : ∃ d, fd s.data.toList k = d := ⟨_, rfl⟩
      have HDE := Lib.hid hd
      rw [hd] at HFD ⊢
      clear hd
      go_wp2_with fail
      go_loopw [7, 9] (fun rv dv0 wr => ∃ (R' j : Nat) (rb : ByteArray), rv = .string rb ∧ rb.data.toList = decN R' ∧ dv0 = .int .u8 ((48 + j : Nat) : Int) ∧ R' + j * y = 10 * R + d ∧ j ≤ 9 ∧ BR wr w.heap.size q ∧ Below w.heap.size w wr) (fun rv _ _ => dv (strOf rv))
      case atStart => exact ⟨10 * R + d, 0, _, rfl, rfl, rfl, by omega, by omega, HW1.out, HB1.out⟩
      case round =>
        clear HW1 HB1
        obtain ⟨R', j, rb', rfl, hrb', rfl, he, hj, hbr, hbel⟩ := hrel
        have HRB' := Lib.hid hrb'
        have HE := Lib.hid he
        have HW1 := Lib.hid hbr
        have HB1 := Lib.hid hbel
        have hcm := refCmpMag_any rb' t R' y wr hrb' HT.out
        clear hrb' he hbr hbel
        by_cases hless : R' < y
        · rw [cmpN_lt hless] at hcm
          have hj9 : j < 10 := by omega
          have HSP := Lib.hid (HR.out.step (by rw [HLS.out]; exact hlt) hj9 hless (by rw [HE.out, HDE.out]))
          go_wp2_with fail
          refine hcm.mono ?_
          rintro e w2 ⟨rfl, hb2⟩
          have HW2 := Lib.hid (HW1.out.far hb2)
          have HB2 := Lib.hid (HB1.out.trans (hb2.mono HB1.out.size))
          have hcw := HW2.out.cell k (by omega)
          have hfw := HW2.out.fz k
          have HDG : Hid (((48 + j : Nat) : Int) = ((dg j).toNat : Int)) := Lib.hid (by rw [dg_toNat hj9])
          clear hb2 hcm
          generalize q.getD k 0 = z at *
          go_wp2_with fail
          exact ⟨⟨k + 1, R', q.set k (dg j), rb', by omega, by go_num, rfl, HRB'.out, HSP.out, HW2.out.set _ _ _ HDG.out, HB2.out.setCell (Nat.le_refl _) _⟩, by simp [intOf]; omega⟩
        · have hge : ¬ cmpN R' y < 0 := by
            rcases Nat.lt_or_ge y R' with h | h
            · rw [cmpN_gt h]; omega
            · rw [cmpN_eq (by omega)]; omega
          have hj1 := digit_le HRL.out HFD.out HE.out (by omega)
          have HST := Lib.hid (show R' - y + (j + 1) * y = 10 * R + d by rw [← HE.out, Nat.add_mul]; omega)
          have hrs' : rb'.size ≤ 1000000 := by
            rw [← size_data, HRB'.out]
            have h10 : R' < 10 * y := by
              have := HE.out; have := HRL.out; have := HFD.out
              have : 0 ≤ j * y := Nat.zero_le _
              omega
            have : (decN R').length ≤ (decN y).length + 1 := decN_len_le (by omega) (by
              have := (decN_len y (by omega)).2
              rw [Nat.pow_succ]; omega)
            rw [HTL.out] at this; omega
          have hsu := fun W => refSubMag_any rb' t R' y W HRB'.out HT.out hrs' (by omega)
          have HDV : Hid (dv rb'.data.toList = R') := Lib.hid (by rw [HRB'.out, dv_decN])
          generalize cmpN R' y = cv at *
          go_wp2_with fail
          refine hcm.mono ?_
          rintro e w2 ⟨rfl, hb2⟩
          have HW2 := Lib.hid (HW1.out.far hb2)
          have HB2 := Lib.hid (HB1.out.trans (hb2.mono HB1.out.size))
          clear hb2 hcm
          go_wp2_with fail
          refine (hsu _).mono ?_
          rintro e w3 ⟨rfl, hb3⟩
          have HW3 := Lib.hid (HW2.out.far hb3)
          have HB3 := Lib.hid (HB2.out.trans (hb3.mono HB2.out.size))
          clear hb3 hsu
          go_wp2_with fail
          go_roundw
          case rel => exact ⟨R' - y, j + 1, _, rfl, rfl, by go_num, HST.out, by omega, HW3.out, HB3.out⟩
          case measure =>
            show dv (decN (R' - y)) < dv rb'.data.toList
            rw [dv_decN, HDV.out]; omega
    · obtain rfl : k = s.size := by omega
      have HDO := Lib.hid ((show LdD s.data.toList y q s.data.toList.length R from by rw [HLS.out]; exact HR.out).done (by intro e; have := HLS.out; rw [e] at this; simp at this; omega))
      rw [HV.out] at HDO
      have hcv := conv_row HW.out s.size hql.symm
      have htr := refTrim_any ⟨q.toArray⟩ wr (by rw [sz_txt]; omega)
      rw [tx_data, HDO.out.1] at htr
      have HRE : Hid (rb = ⟨(decN (x % y)).toArray⟩) := Lib.hid (ba_eq _ _ (by rw [HRB.out, HDO.out.2]))
      obtain rfl := HRE.out
      go_wp2_with fail
      refine htr.mono ?_
      rintro e w1 ⟨rfl, hb1⟩
      have HB1 := Lib.hid (HBl.out.trans (hb1.mono HBl.out.size))
      clear hb1 htr hcv
      go_wp2_with fail
      go_ret2
      exact ⟨rfl, HB1.out⟩
theorem refGcdMag_any (s t : ByteArray) (x y : Nat) (w : World) (hs : s.data.toList = decN x) (ht : t.data.toList = decN y) (h1 : s.size ≤ 100000) (h2 : t.size ≤ 100000) : Calls Tryz.prog 138 #[.string s, .string t] w fun e w' => e = .returned (.string ⟨(decN (x.gcd y)).toArray⟩) ∧ Below w.heap.size w w' := by
  have HS := Lib.hid hs
  have HT := Lib.hid ht
  clear hs ht
  go_enter Tryz.func138, Tryz.ntmps138
  go_wp2
  go_loopw [0, 1] (fun a b wr => ∃ (p q : Nat) (sa sb : ByteArray), a = .string sa ∧ b = .string sb ∧ sa.data.toList = decN p ∧ sb.data.toList = decN q ∧ sa.size ≤ 100000 ∧ sb.size ≤ 100000 ∧ p.gcd q = x.gcd y ∧ Below w.heap.size w wr) (fun _ b _ => dv (strOf b))
  case atStart => exact ⟨x, y, s, t, rfl, rfl, HS.out, HT.out, h1, h2, rfl, Below.refl _ _⟩
  case round =>
    obtain ⟨p, q, sa, sb, rfl, rfl, ha, hb, hla, hlb, hg, hbel⟩ := hrel
    have HA := Lib.hid ha
    have HB := Lib.hid hb
    have HG := Lib.hid hg
    have HBl := Lib.hid hbel
    have hsb : sb.toList = decN q := by rw [ByteArray.toList_eq, hb]
    clear ha hb hg hbel
    by_cases hq : q = 0
    · subst hq
      have h48 : (sb.toList == [48]) = true := by rw [hsb, decN_zero]; rfl
      have HE : Hid (sa = ⟨(decN (x.gcd y)).toArray⟩) := Lib.hid (ba_eq _ _ (by rw [← HG.out, Nat.gcd_zero_right, HA.out]))
      clear hsb
      go_wp2
      go_ret
      exact ⟨ret_str HE.out, HBl.out⟩
    · have h48 : (sb.toList == [48]) = false := by
        rw [beq_eq_false_iff_ne, hsb, ne_eq, decN_eq_zero]; exact hq
      have hdm := refDivMag_any sa sb p q wr HA.out HB.out hla hlb (by omega)
      have HR : Hid (q.gcd (p % q) = x.gcd y) := Lib.hid (by rw [← HG.out, Nat.gcd_comm p q, Nat.gcd_rec q p, Nat.gcd_comm])
      have hlt : p % q < q := Nat.mod_lt _ (by omega)
      have hl : (decN (p % q)).length ≤ 100000 := dec_size hlt (by rw [← HB.out, size_data]; exact hlb)
      have HDV : Hid (dv sb.data.toList = q) := Lib.hid (by rw [HB.out, dv_decN])
      clear hsb
      go_wp2_with fail
      refine hdm.mono ?_
      rintro e w1 ⟨rfl, hb1⟩
      have HB1 := Lib.hid (HBl.out.trans (hb1.mono HBl.out.size))
      clear hb1 hdm
      go_wp2_with fail
      go_roundw
      case rel => exact ⟨q, p % q, sb, _, rfl, rfl, HB.out, rfl, hlb, by rw [sz_txt]; exact hl, HR.out, HB1.out⟩
      case measure =>
        show dv (decN (p % q)) < dv sb.data.toList
        rw [dv_decN, HDV.out]; exact hlt
end
end Go.Proofs.YthefknoicelhaaaGreatDoor
namespace Go.Proofs.YthefknoicelhaaaGreatDoor
open Go.RowKit Nmx
open Rf

def ratV (q : Rat) : Value := .agg #[.bool (decide (q.num < 0)), .string ⟨(decN q.num.natAbs).toArray⟩, .string ⟨(decN q.den).toArray⟩]
theorem set3h {w : World} {R : Nat} {x y z a b c : Value} {t : TypeId} (h : w.heap[R]? = some (.cells #[a, b, c] t (0, 0))) : (((w.setCell ⟨R, 0, none⟩ x).setCell ⟨R, 1, none⟩ y).setCell ⟨R, 2, none⟩ z).heap[R]? = some (.cells #[x, y, z] t (0, 0)) := by
  have := heap_set (heap_set (heap_set h 0 x) 1 y) 2 z
  simpa using this
theorem end_r3 {fn : Func} {t : Tmp} {a : Act} {w w2 : World} {R : Nat} {v0 v1 v2 x0 x1 x2 : Value} {Q : Ending → World → Prop} (hres : fn.results = #[.cell t 135]) (hd : a.defers = []) (ht : a.tmps.getD t undef = .pointer (some ⟨R, 0, none⟩))
    (hR : w2.heap[R]? = some (.cells #[x0, x1, x2] 135 (0, 0))) (hb : Below w.heap.size w w2) (hRB : w.heap.size ≤ R)
    (hQ : ∀ w3, Below w.heap.size w w3 → Q (.returned (.agg #[v0, v1, v2])) w3) :
    bodyPost Tryz.prog fn Q .ret a (((w2.setCell ⟨R, 0, none⟩ v0).setCell ⟨R, 1, none⟩ v1).setCell ⟨R, 2, none⟩ v2) := by
  have h3 := set3h (x := v0) (y := v1) (z := v2) hR
  have hbl := ((hb.setCell (show w.heap.size ≤ (⟨R, 0, none⟩ : Addr).block from hRB) v0).setCell (show w.heap.size ≤ (⟨R, 1, none⟩ : Addr).block from hRB) v1).setCell (show w.heap.size ≤ (⟨R, 2, none⟩ : Addr).block from hRB) v2
  generalize ((w2.setCell ⟨R, 0, none⟩ v0).setCell ⟨R, 1, none⟩ v1).setCell ⟨R, 2, none⟩ v2 = w3 at *
  have k0 := heap_cell h3 0
  have k1 := heap_cell h3 1
  have k2 := heap_cell h3 2
  simp at k0 k1 k2
  refine bodyPost_ret (v := .agg #[v0, v1, v2]) ?_ hd (hQ _ hbl)
  have h1 : a.tmps[t]?.getD undef = .pointer (some ⟨R, 0, none⟩) := by simpa using ht
  simp [results, hres, go_sem, h1, k0, k1, k2]
theorem dec_len_dvd {g d n : Nat} (h : (decN d).length ≤ n) (hg : g ≤ d) : (decN g).length ≤ n := by
  rcases Nat.lt_or_ge n (decN g).length with h1 | h1
  · have := len_lt (m := d) (n := g) (by omega); omega
  · exact h1
section
set_option maxRecDepth 100000
set_option maxHeartbeats 4000000
theorem refReduce_any (neg : Bool) (s t : ByteArray) (n d : Nat) (w : World) (hs : s.data.toList = decN n) (ht : t.data.toList = decN d) (h1 : s.size ≤ 100000) (h2 : t.size ≤ 100000) (hd : 0 < d) : Calls Tryz.prog 122 #[.bool neg, .string s, .string t] w fun e w' => e = .returned (ratV (redQ neg n d)) ∧ Below w.heap.size w w' := by
  obtain ⟨r1, r2⟩ := redQ_num neg n d hd
  have r3 := (redQ_parts neg n d hd).2
  have HQ : Hid (ratV (redQ neg n d) = .agg #[.bool (neg && decide (n / n.gcd d ≠ 0)), .string ⟨(decN (n / n.gcd d)).toArray⟩, .string ⟨(decN (d / n.gcd d)).toArray⟩]) := Lib.hid (by unfold ratV; rw [r1, r2, r3])
  clear r1 r2 r3
  have hg := fun W => refGcdMag_any s t n d W hs ht h1 h2
  have hgp : 0 < n.gcd d := Nat.gcd_pos_of_pos_right _ hd
  have hgl : (decN (n.gcd d)).length ≤ 100000 := dec_len_dvd (by rw [← ht, size_data]; exact h2) (Nat.gcd_le_right _ hd)
  have hn := fun W => refDivMag_any s ⟨(decN (n.gcd d)).toArray⟩ n (n.gcd d) W hs rfl h1 (by rw [sz_txt]; exact hgl) hgp
  have hdd := fun W => refDivMag_any t ⟨(decN (n.gcd d)).toArray⟩ d (n.gcd d) W ht rfl h2 (by rw [sz_txt]; exact hgl) hgp
  generalize n.gcd d = g at *
  obtain ⟨n', hn'⟩ : ∃ n', n / g = n' := ⟨_, rfl⟩
  obtain ⟨d', hd'⟩ : ∃ d', d / g = d' := ⟨_, rfl⟩
  rw [hn'] at hn HQ
  rw [hd'] at hdd HQ
  clear hn' hd' hs ht hgl
  have HA0 : Hid (Below w.heap.size w (w.alloc (.cells #[.bool false, .string ⟨#[]⟩, .string ⟨#[]⟩] 135))) := Lib.hid ((Below.refl _ _).alloc (Nat.le_refl _) _)
  have HR0 : Hid ((w.alloc (.cells #[.bool false, .string ⟨#[]⟩, .string ⟨#[]⟩] 135)).heap[w.heap.size]? = some (.cells #[.bool false, .string ⟨#[]⟩, .string ⟨#[]⟩] 135 (0, 0))) := Lib.hid (heap_alloc_new w _)
  go_enter Tryz.func122, Tryz.ntmps122
  go_wp2_with fail
  refine (hg _).mono ?_
  rintro e w1 ⟨rfl, hb1⟩
  have HB1 := Lib.hid (HA0.out.trans (hb1.mono (by simp)))
  have HR1 := Lib.hid ((hb1.block _ (lt_of_heap HR0.out)).trans HR0.out)
  clear hb1 hg
  go_wp2_with fail
  refine (hn _).mono ?_
  rintro e w2 ⟨rfl, hb2⟩
  have HB2 := Lib.hid (HB1.out.trans (hb2.mono HB1.out.size))
  have HR2 := Lib.hid ((hb2.block _ (lt_of_heap HR1.out)).trans HR1.out)
  clear hb2 hn
  go_wp2_with fail
  refine (hdd _).mono ?_
  rintro e w3 ⟨rfl, hb3⟩
  have HB3 := Lib.hid (HB2.out.trans (hb3.mono HB2.out.size))
  have HR3 := Lib.hid ((hb3.block _ (lt_of_heap HR2.out)).trans HR2.out)
  obtain ⟨c0, c1, c2⟩ : w3.cell? ⟨w.heap.size, 0, none⟩ = some (.bool false) ∧ w3.cell? ⟨w.heap.size, 1, none⟩ = some (.string ⟨#[]⟩) ∧ w3.cell? ⟨w.heap.size, 2, none⟩ = some (.string ⟨#[]⟩) := ⟨heap_cell HR3.out 0, heap_cell HR3.out 1, heap_cell HR3.out 2⟩
  have f0 := heap_fz HR3.out 0
  have f1 := heap_fz HR3.out 1
  have f2 := heap_fz HR3.out 2
  clear hb3 hdd
  cases neg
  · go_wp2_with fail
    exact end_r3 Tryz.results122 rfl rfl HR3.out HB3.out (Nat.le_refl _) (fun w3 h => ⟨by rw [HQ.out, Bool.false_and], h⟩)
  · by_cases h0 : n' = 0
    · subst h0
      have h48 : (decN 0 == [48]) = true := by rw [decN_zero]; rfl
      go_wp2_with fail
      exact end_r3 Tryz.results122 rfl rfl HR3.out HB3.out (Nat.le_refl _) (fun w3 h => ⟨by rw [HQ.out, Bool.true_and]; rfl, h⟩)
    · have h48 : (decN n' == [48]) = false := by rw [beq_eq_false_iff_ne, ne_eq, decN_eq_zero]; exact h0
      go_wp2_with fail
      exact end_r3 Tryz.results122 rfl rfl HR3.out HB3.out (Nat.le_refl _) (fun w3 h => ⟨by rw [HQ.out, Bool.true_and, decide_eq_true h0], h⟩)
theorem app_data (a b : ByteArray) : (a ++ b).data.toList = a.data.toList ++ b.data.toList := by rw [ByteArray.data_append, Array.toList_append]
theorem refText_any (q : Rat) (w : World) (h1 : (decN q.num.natAbs).length ≤ 1000000) (h2 : (decN q.den).length ≤ 1000000) : Calls Tryz.prog 123 #[ratV q] w fun e w' => e = .returned (.string ⟨(textQ q).toArray⟩) ∧ Below w.heap.size w w' := by
  have HT : Hid (textQ q = _) := Lib.hid (textQ_form q)
  obtain ⟨a, ha⟩ : ∃ a : ByteArray, (⟨(decN q.num.natAbs).toArray⟩ : ByteArray) = a := ⟨_, rfl⟩
  obtain ⟨b, hb⟩ : ∃ b : ByteArray, (⟨(decN q.den).toArray⟩ : ByteArray) = b := ⟨_, rfl⟩
  have hal : a.size ≤ 1000000 := by rw [← ha, sz_txt]; exact h1
  have hbl : b.size ≤ 1000000 := by rw [← hb, sz_txt]; exact h2
  have HA : Hid (a.data.toList = decN q.num.natAbs) := Lib.hid (by rw [← ha])
  have HB : Hid (b.data.toList = decN q.den) := Lib.hid (by rw [← hb])
  have hbt : b.toList = decN q.den := by rw [ByteArray.toList_eq, HB.out]
  unfold ratV
  rw [ha, hb]
  have HBE : Hid (Below w.heap.size w (w.alloc (.cells #[.bool (decide (q.num < 0)), .string a, .string b] 135))) := Lib.hid ((Below.refl _ _).alloc (Nat.le_refl _) _)
  clear ha hb
  by_cases hn : q.num < 0
  · rw [decide_eq_true hn] at HBE ⊢
    have hs1 : ((⟨#[45]⟩ : ByteArray) ++ a).size ≤ 1000001 := by rw [ByteArray.size_append]; show 1 + a.size ≤ _; omega
    by_cases hd : q.den = 1
    · have h49 : (b.toList == [49]) = true := by rw [hbt, hd, decN_one]; rfl
      have HE : Hid ((⟨#[45]⟩ : ByteArray) ++ a = ⟨(textQ q).toArray⟩) := Lib.hid (ba_eq _ _ (by rw [app_data, HA.out, HT.out, if_pos hn, if_pos hd, List.append_nil]))
      clear hbt hd hn
      go_enter Tryz.func123, Tryz.ntmps123
      go_wp2
      go_ret
      exact ⟨ret_str HE.out, HBE.out⟩
    · have h49 : (b.toList == [49]) = false := by rw [beq_eq_false_iff_ne, hbt, ne_eq, decN_eq_one]; exact hd
      have HE : Hid ((⟨#[45]⟩ : ByteArray) ++ a ++ ((⟨#[47]⟩ : ByteArray) ++ b) = ⟨(textQ q).toArray⟩) := Lib.hid (ba_eq _ _ (by rw [app_data, app_data, app_data, HA.out, HB.out, HT.out, if_pos hn, if_neg hd]; simp))
      clear hbt hd hn
      go_enter Tryz.func123, Tryz.ntmps123
      go_wp2
      go_ret
      exact ⟨ret_str HE.out, HBE.out⟩
  · rw [decide_eq_false hn] at HBE ⊢
    by_cases hd : q.den = 1
    · have h49 : (b.toList == [49]) = true := by rw [hbt, hd, decN_one]; rfl
      have HE : Hid (a = ⟨(textQ q).toArray⟩) := Lib.hid (ba_eq _ _ (by rw [HA.out, HT.out, if_neg hn, if_pos hd, List.append_nil, List.nil_append]))
      clear hbt hd hn
      go_enter Tryz.func123, Tryz.ntmps123
      go_wp2
      go_ret
      exact ⟨ret_str HE.out, HBE.out⟩
    · have h49 : (b.toList == [49]) = false := by rw [beq_eq_false_iff_ne, hbt, ne_eq, decN_eq_one]; exact hd
      have HE : Hid (a ++ ((⟨#[47]⟩ : ByteArray) ++ b) = ⟨(textQ q).toArray⟩) := Lib.hid (ba_eq _ _ (by rw [app_data, app_data, HA.out, HB.out, HT.out, if_neg hn, if_neg hd]; simp))
      clear hbt hd hn
      go_enter Tryz.func123, Tryz.ntmps123
      go_wp2
      go_ret
      exact ⟨ret_str HE.out, HBE.out⟩
end
end Go.Proofs.YthefknoicelhaaaGreatDoor

/- ParseInt of package exact. -/
import Derived.Test.YtgehimcngljmnaaGreatDoorU
namespace Go.Proofs.YtgehimcngljmnaaGreatDoor
open Go.RowKit Nmx

theorem end_ib {fn : Func} {t t' : Tmp} {a : Act} {w w2 : World} {R : Nat} {z s : Int} {b bb : Bool} {ao : Option Addr} {n c : Nat} {x0 x1 x2 : Value} {Q : Ending → World → Prop} (hres : fn.results = #[.cell t 58, .tmp t']) (hd : a.defers = []) (ht : a.tmps.getD t undef = .pointer (some ⟨R, 0, none⟩)) (ht' : a.tmps.getD t' undef = .bool bb)
    (hR : w2.heap[R]? = some (.cells #[x0, x1, x2] 58 (0, 0))) (hv : IV w2 (.agg #[.int .i64 s, .bool b, .slice ao n c]) z) (hb : Below w.heap.size w w2) (hRB : w.heap.size ≤ R)
    (hQ : ∀ w3 v, IV w3 v z → Below w.heap.size w w3 → Q (.returned (.tuple #[v, .bool bb])) w3) :
    bodyPost Tryz.prog fn Q .ret a (((w2.setCell ⟨R, 0, none⟩ (.int .i64 s)).setCell ⟨R, 1, none⟩ (.bool b)).setCell ⟨R, 2, none⟩ (.slice ao n c)) := by
  have h3 := heap_set (heap_set (heap_set hR 0 (.int .i64 s)) 1 (.bool b)) 2 (.slice ao n c)
  have k0 := heap_cell h3 0
  have k1 := heap_cell h3 1
  have k2 := heap_cell h3 2
  have hiv := hv.set3 hR (.int .i64 s) (.bool b) (.slice ao n c)
  have hbl := ((hb.setCell (show w.heap.size ≤ (⟨R, 0, none⟩ : Addr).block from hRB) (.int .i64 s)).setCell (show w.heap.size ≤ (⟨R, 1, none⟩ : Addr).block from hRB) (.bool b)).setCell (show w.heap.size ≤ (⟨R, 2, none⟩ : Addr).block from hRB) (.slice ao n c)
  unfold set3 at hiv
  generalize ((w2.setCell ⟨R, 0, none⟩ (.int .i64 s)).setCell ⟨R, 1, none⟩ (.bool b)).setCell ⟨R, 2, none⟩ (.slice ao n c) = w3 at *
  simp at k0 k1 k2
  refine bodyPost_ret (v := .tuple #[.agg #[.int .i64 s, .bool b, .slice ao n c], .bool bb]) ?_ hd (hQ w3 _ hiv hbl)
  have h1 : a.tmps[t]?.getD undef = .pointer (some ⟨R, 0, none⟩) := by simpa using ht
  have h2 : a.tmps[t']?.getD undef = .bool bb := by simpa using ht'
  simp [results, hres, go_sem, h1, h2, k0, k1, k2]
/-- the same where the result's block is new and already holds what is returned -/
theorem end_ib0 {fn : Func} {t t' : Tmp} {a : Act} {w w2 : World} {R : Nat} {z s : Int} {b bb : Bool} {ao : Option Addr} {n c : Nat} {Q : Ending → World → Prop} (hres : fn.results = #[.cell t 58, .tmp t']) (hd : a.defers = []) (ht : a.tmps.getD t undef = .pointer (some ⟨R, 0, none⟩)) (ht' : a.tmps.getD t' undef = .bool bb)
    (hR : w2.heap[R]? = some (.cells #[.int .i64 s, .bool b, .slice ao n c] 58 (0, 0))) (hv : IV w2 (.agg #[.int .i64 s, .bool b, .slice ao n c]) z) (hb : Below w.heap.size w w2)
    (hQ : ∀ w3 v, IV w3 v z → Below w.heap.size w w3 → Q (.returned (.tuple #[v, .bool bb])) w3) : bodyPost Tryz.prog fn Q .ret a w2 := by
  have k0 := heap_cell hR 0
  have k1 := heap_cell hR 1
  have k2 := heap_cell hR 2
  simp at k0 k1 k2
  refine bodyPost_ret (v := .tuple #[.agg #[.int .i64 s, .bool b, .slice ao n c], .bool bb]) ?_ hd (hQ w2 _ hv hb)
  have h1 : a.tmps[t]?.getD undef = .pointer (some ⟨R, 0, none⟩) := by simpa using ht
  have h2 : a.tmps[t']?.getD undef = .bool bb := by simpa using ht'
  simp [results, hres, go_sem, h1, h2, k0, k1, k2]

def ParseIntPost (l : List UInt8) (w : World) (e : Ending) (w' : World) : Prop := ∃ v, e = .returned (.tuple #[v, .bool (intF l).isSome]) ∧ IV w' v ((intF l).getD 0) ∧ Below w.heap.size w w'
theorem pip_none {l : List UInt8} {w : World} (h : intF l = none) : ∀ w3 v, IV w3 v 0 → Below w.heap.size w w3 → ParseIntPost l w (.returned (.tuple #[v, .bool false])) w3 := fun w3 v h1 h2 => ⟨v, by rw [h]; rfl, by rw [h]; exact h1, h2⟩
theorem pip_some {l : List UInt8} {w : World} {z : Int} (h : intF l = some z) : ∀ w3 v, IV w3 v z → Below w.heap.size w w3 → ParseIntPost l w (.returned (.tuple #[v, .bool true])) w3 := fun w3 v h1 h2 => ⟨v, by rw [h]; rfl, by rw [h]; exact h1, h2⟩
theorem byte_at (s : ByteArray) (k : Nat) (h : k < s.size) : s.data.toList[k]? = some s[k] := by
  rw [List.getElem?_eq_getElem (by rw [size_data]; exact h)]; rfl
theorem take_all (s : ByteArray) (k : Nat) (h : k < s.size) (ha : (s.data.toList.take k).all isD = true) (hc : isD s[k] = true) : (s.data.toList.take (k + 1)).all isD = true := by
  rw [List.take_add_one, byte_at s k h, List.all_append, ha]; simpa using hc
theorem not_all (s : ByteArray) (k : Nat) (h : k < s.size) (hc : isD s[k] = false) : s.data.toList.all isD = false := by
  rw [List.all_eq_false]
  exact ⟨s[k], List.mem_of_getElem? (byte_at s k h), by rw [hc]; simp⟩
theorem zeroIV (w : World) : IV w (.agg #[.int .i64 0, .bool false, .slice none 0 0]) 0 := small_iv w (by unfold Small; omega)
theorem intF_of {l d : List UInt8} {b : Bool} (hb : sgB l = b) (hd : body l = d) : (d = [] → intF l = none) ∧ (d.all isD = false → intF l = none) ∧ (d ≠ [] → d.all isD = true → intF l = some (sgn b (dv d))) := by
  unfold intF
  rw [hb, hd]
  refine ⟨fun h => by rw [if_pos (.inl h)], fun h => by rw [if_pos (.inr h)], fun h1 h2 => by rw [if_neg (by rintro (h | h); exact h1 h; rw [h2] at h; cases h)]⟩

section
set_option maxRecDepth 100000
set_option maxHeartbeats 4000000
theorem parseInt_neg (s r : ByteArray) (w : World) (hs : s.size ≤ 1000000) (h0 : 0 < s.size) (h45 : s[0].toNat = 45) (hsg : sgB s.data.toList = true) (hbd : body s.data.toList = r.data.toList) :
    Calls Tryz.prog 64 #[.string s] w (ParseIntPost s.data.toList w) := by
  obtain rfl : r = s.extract 1 s.size := by
    apply ByteArray.ext
    apply Array.toList_inj.1
    rw [← hbd, ex_data]
    unfold body
    rw [hsg, if_pos rfl, List.take_of_length_le (by rw [List.length_drop, size_data]; exact Nat.le_refl _)]
    exact (List.drop_one).symm
  have h45b : ((s[0].toNat : Int) == 45) = true := by simp [h45]
  have hsz : (s.extract 1 s.size).size = s.size - 1 := by rw [ByteArray.size_extract]; omega
  have hszr : (s.extract 1 s.size).size ≤ 1000000 := by omega
  clear h45
  generalize hre : s.extract 1 s.size = r at *
  obtain ⟨i1, i2, i3⟩ := intF_of hsg hbd
  have I1 := Lib.hid i1
  have I2 := Lib.hid i2
  have I3 := Lib.hid i3
  have hE := isE r
  clear i1 i2 i3 hsg hbd
  have hbel : Below w.heap.size w (w.alloc (.cells #[.int .i64 0, .bool false, .slice none 0 0] 58)) := (Below.refl _ _).alloc (Nat.le_refl _) _
  have HBL := Lib.hid hbel
  have HRR : Hid ((w.alloc (.cells #[.int .i64 0, .bool false, .slice none 0 0] 58)).heap[w.heap.size]? = some (.cells #[.int .i64 0, .bool false, .slice none 0 0] 58 (0, 0))) := Lib.hid (heap_alloc_new w _)
  clear hbel
  by_cases hr0 : r.size = 0
  · have hE1 : r.toList.isEmpty = true := by rw [hE]; simpa using hr0
    have hE2 : r.toList = [] := by simpa using hE1
    have HN := Lib.hid (I1.out (List.length_eq_zero_iff.1 (by rw [size_data]; exact hr0)))
    clear hE
    go_enter Tryz.func64, Tryz.ntmps64
    go_wp2
    exact end_ib0 Tryz.results64 rfl rfl rfl HRR.out (zeroIV _) HBL.out (pip_none HN.out)
  · have hE1 : r.toList.isEmpty = false := by rw [hE]; simpa using hr0
    have hE2 : ¬ r.toList = [] := fun e => by rw [e] at hE1; cases hE1
    have hne : r.data.toList ≠ [] := fun e => by have := size_data r; rw [e] at this; simp at this; omega
    have HNE := Lib.hid hne
    clear hE hne
    go_enter Tryz.func64, Tryz.ntmps64
    go_wp2_with fail
    go_loop [6] (fun iv => ∃ k : Nat, k ≤ r.size ∧ iv = .int .i64 k ∧ (r.data.toList.take k).all isD = true) (fun iv => r.size - (intOf iv).toNat)
    case atStart => exact ⟨0, Nat.zero_le _, rfl, rfl⟩
    case round =>
      obtain ⟨k, hk, rfl, ha⟩ := hrel
      have HA := Lib.hid ha
      clear ha
      by_cases hlt : k < r.size
      · by_cases hd : isD r[k] = true
        · have h1 : ¬ (r[k].toNat : Int) < 48 := by have := isD_iff.1 hd; omega
          have h2 : ¬ (57 : Int) < (r[k].toNat : Int) := by have := isD_iff.1 hd; omega
          have HD := Lib.hid (take_all r k hlt HA.out hd)
          clear hd
          go_wp2_with fail
          go_round
          case rel => exact ⟨k + 1, by omega, by go_num, HD.out⟩
          case measure => simp [intOf]; omega
        · have hd' : isD r[k] = false := by simpa using hd
          have HN := Lib.hid (I2.out (not_all r k hlt hd'))
          by_cases h1 : (r[k].toNat : Int) < 48
          · clear hd hd'
            go_wp2_with fail
            exact end_ib0 Tryz.results64 rfl rfl rfl HRR.out (zeroIV _) HBL.out (pip_none HN.out)
          · have h2 : (57 : Int) < (r[k].toNat : Int) := by simp [isD] at hd'; omega
            clear hd hd'
            go_wp2_with fail
            exact end_ib0 Tryz.results64 rfl rfl rfl HRR.out (zeroIV _) HBL.out (pip_none HN.out)
      · have hall : r.data.toList.all isD = true := by
          have := HA.out
          rwa [List.take_of_length_le (by rw [size_data]; omega)] at this
        have HS := Lib.hid (I3.out HNE.out hall)
        have HAL := Lib.hid hall
        by_cases h18 : r.size ≤ 18
        · obtain ⟨p1, p2⟩ := parseI_ok r.data.toList hall HNE.out (by rw [size_data]; exact h18)
          have hpi := Tryz.strconv_ParseInt_10_at64_ok r (by omega) _ p1
          clear p1 hall
          generalize dv r.data.toList = x at *
          have hx0 : (0 : Int) ≤ (x : Int) := by omega
          have hx1 : (x : Int) ≤ 9223372036854775807 := by omega
          go_wp2_with fail
          refine (hpi _).mono ?_
          rintro e w1 ⟨rfl, hw1⟩
          have hb1 : Below (w.alloc (.cells #[.int .i64 0, .bool false, .slice none 0 0] 58)).heap.size (w.alloc (.cells #[.int .i64 0, .bool false, .slice none 0 0] 58)) w1 := by
            rcases hw1 with h | ⟨t, h⟩
            · subst h; exact Below.refl _ _
            · subst h; exact Lib.bytesWorld_below _ _ _
          have HB1 := Lib.hid (HBL.out.trans (hb1.mono (by simp)))
          have HR1 := Lib.hid ((hb1.block w.heap.size (by simp)).trans HRR.out)
          obtain ⟨r0, r1, r2, r3, r4, r5⟩ := Res.cells HR1.out
          clear hw1 hb1 hpi
          have hsx : Small (sgn true x) := sgn_small (by omega)
          go_wp2_with fail
          exact end_ib Tryz.results64 rfl rfl rfl HR1.out (small_iv _ hsx) HB1.out (Nat.le_refl _) (pip_some HS.out)
        · have hpw := fun W => parseWords_any r W (by omega) hall
          clear hall
          go_wp2_with fail
          refine (hpw _).mono ?_
          rintro e w1 ⟨v1, l1, rfl, hv1, hl1, hll, hb1⟩
          have HB1 := Lib.hid (HBL.out.trans (hb1.mono (by simp)))
          have HR1 := Lib.hid ((hb1.block w.heap.size (by simp)).trans HRR.out)
          have hfp := fromParts_any true v1 l1 w1 hv1 (by omega)
          rw [hl1] at hfp
          clear hb1 hv1 hl1 hpw
          go_wp2_with fail
          refine hfp.mono ?_
          rintro e w2 ⟨v2, rfl, hv2, hb2⟩
          have HV2 := Lib.hid hv2
          obtain ⟨s2, b2, a2, n2, c2, rfl⟩ := iv_form hv2
          have HB2 := Lib.hid (HB1.out.trans (hb2.mono HB1.out.size))
          have HR2 := Lib.hid ((hb2.block w.heap.size (lt_of_heap HR1.out)).trans HR1.out)
          obtain ⟨r0, r1, r2, r3, r4, r5⟩ := Res.cells HR2.out
          clear hb2 hv2 hfp
          go_wp2_with fail
          exact end_ib Tryz.results64 rfl rfl rfl HR2.out HV2.out HB2.out (Nat.le_refl _) (pip_some HS.out)
theorem parseInt_pos (s r : ByteArray) (w : World) (hs : s.size ≤ 1000000) (h0 : s.size = 0 ∨ (∃ h : 0 < s.size, s[0].toNat ≠ 45)) (hsg : sgB s.data.toList = false) (hbd : body s.data.toList = r.data.toList) :
    Calls Tryz.prog 64 #[.string s] w (ParseIntPost s.data.toList w) := by
  obtain rfl : r = s := by
    apply ByteArray.ext
    apply Array.toList_inj.1
    rw [← hbd]
    unfold body
    rw [hsg]; rfl
  have h45b : ∀ h : 0 < r.size, ((r[0].toNat : Int) == 45) = false := fun h => by
    rcases h0 with h1 | ⟨h1, h2⟩
    · omega
    · simp; omega
  clear h0
  obtain ⟨i1, i2, i3⟩ := intF_of hsg hbd
  have I1 := Lib.hid i1
  have I2 := Lib.hid i2
  have I3 := Lib.hid i3
  have hE := isE r
  clear i1 i2 i3 hsg hbd
  have hbel : Below w.heap.size w (w.alloc (.cells #[.int .i64 0, .bool false, .slice none 0 0] 58)) := (Below.refl _ _).alloc (Nat.le_refl _) _
  have HBL := Lib.hid hbel
  have HRR : Hid ((w.alloc (.cells #[.int .i64 0, .bool false, .slice none 0 0] 58)).heap[w.heap.size]? = some (.cells #[.int .i64 0, .bool false, .slice none 0 0] 58 (0, 0))) := Lib.hid (heap_alloc_new w _)
  clear hbel
  by_cases hr0 : r.size = 0
  · have hE1 : r.toList.isEmpty = true := by rw [hE]; simpa using hr0
    have hE2 : r.toList = [] := by simpa using hE1
    have HN := Lib.hid (I1.out (List.length_eq_zero_iff.1 (by rw [size_data]; exact hr0)))
    clear hE
    go_enter Tryz.func64, Tryz.ntmps64
    go_wp2
    exact end_ib0 Tryz.results64 rfl rfl rfl HRR.out (zeroIV _) HBL.out (pip_none HN.out)
  · have hE1 : r.toList.isEmpty = false := by rw [hE]; simpa using hr0
    have hE2 : ¬ r.toList = [] := fun e => by rw [e] at hE1; cases hE1
    have hne : r.data.toList ≠ [] := fun e => by have := size_data r; rw [e] at this; simp at this; omega
    have HNE := Lib.hid hne
    clear hE hne
    go_enter Tryz.func64, Tryz.ntmps64
    go_wp2_with fail
    go_loop [6] (fun iv => ∃ k : Nat, k ≤ r.size ∧ iv = .int .i64 k ∧ (r.data.toList.take k).all isD = true) (fun iv => r.size - (intOf iv).toNat)
    case atStart => exact ⟨0, Nat.zero_le _, rfl, rfl⟩
    case round =>
      obtain ⟨k, hk, rfl, ha⟩ := hrel
      have HA := Lib.hid ha
      clear ha
      by_cases hlt : k < r.size
      · by_cases hd : isD r[k] = true
        · have h1 : ¬ (r[k].toNat : Int) < 48 := by have := isD_iff.1 hd; omega
          have h2 : ¬ (57 : Int) < (r[k].toNat : Int) := by have := isD_iff.1 hd; omega
          have HD := Lib.hid (take_all r k hlt HA.out hd)
          clear hd
          go_wp2_with fail
          go_round
          case rel => exact ⟨k + 1, by omega, by go_num, HD.out⟩
          case measure => simp [intOf]; omega
        · have hd' : isD r[k] = false := by simpa using hd
          have HN := Lib.hid (I2.out (not_all r k hlt hd'))
          by_cases h1 : (r[k].toNat : Int) < 48
          · clear hd hd'
            go_wp2_with fail
            exact end_ib0 Tryz.results64 rfl rfl rfl HRR.out (zeroIV _) HBL.out (pip_none HN.out)
          · have h2 : (57 : Int) < (r[k].toNat : Int) := by simp [isD] at hd'; omega
            clear hd hd'
            go_wp2_with fail
            exact end_ib0 Tryz.results64 rfl rfl rfl HRR.out (zeroIV _) HBL.out (pip_none HN.out)
      · have hall : r.data.toList.all isD = true := by
          have := HA.out
          rwa [List.take_of_length_le (by rw [size_data]; omega)] at this
        have HS := Lib.hid (I3.out HNE.out hall)
        have HAL := Lib.hid hall
        by_cases h18 : r.size ≤ 18
        · obtain ⟨p1, p2⟩ := parseI_ok r.data.toList hall HNE.out (by rw [size_data]; exact h18)
          have hpi := Tryz.strconv_ParseInt_10_at64_ok r (by omega) _ p1
          clear p1 hall
          generalize dv r.data.toList = x at *
          have hx0 : (0 : Int) ≤ (x : Int) := by omega
          have hx1 : (x : Int) ≤ 9223372036854775807 := by omega
          go_wp2_with fail
          refine (hpi _).mono ?_
          rintro e w1 ⟨rfl, hw1⟩
          have hb1 : Below (w.alloc (.cells #[.int .i64 0, .bool false, .slice none 0 0] 58)).heap.size (w.alloc (.cells #[.int .i64 0, .bool false, .slice none 0 0] 58)) w1 := by
            rcases hw1 with h | ⟨t, h⟩
            · subst h; exact Below.refl _ _
            · subst h; exact Lib.bytesWorld_below _ _ _
          have HB1 := Lib.hid (HBL.out.trans (hb1.mono (by simp)))
          have HR1 := Lib.hid ((hb1.block w.heap.size (by simp)).trans HRR.out)
          obtain ⟨r0, r1, r2, r3, r4, r5⟩ := Res.cells HR1.out
          clear hw1 hb1 hpi
          have hsx : Small (sgn false x) := sgn_small (by omega)
          go_wp2_with fail
          exact end_ib Tryz.results64 rfl rfl rfl HR1.out (small_iv _ hsx) HB1.out (Nat.le_refl _) (pip_some HS.out)
        · have hpw := fun W => parseWords_any r W (by omega) hall
          clear hall
          go_wp2_with fail
          refine (hpw _).mono ?_
          rintro e w1 ⟨v1, l1, rfl, hv1, hl1, hll, hb1⟩
          have HB1 := Lib.hid (HBL.out.trans (hb1.mono (by simp)))
          have HR1 := Lib.hid ((hb1.block w.heap.size (by simp)).trans HRR.out)
          have hfp := fromParts_any false v1 l1 w1 hv1 (by omega)
          rw [hl1] at hfp
          clear hb1 hv1 hl1 hpw
          go_wp2_with fail
          refine hfp.mono ?_
          rintro e w2 ⟨v2, rfl, hv2, hb2⟩
          have HV2 := Lib.hid hv2
          obtain ⟨s2, b2, a2, n2, c2, rfl⟩ := iv_form hv2
          have HB2 := Lib.hid (HB1.out.trans (hb2.mono HB1.out.size))
          have HR2 := Lib.hid ((hb2.block w.heap.size (lt_of_heap HR1.out)).trans HR1.out)
          obtain ⟨r0, r1, r2, r3, r4, r5⟩ := Res.cells HR2.out
          clear hb2 hv2 hfp
          go_wp2_with fail
          exact end_ib Tryz.results64 rfl rfl rfl HR2.out HV2.out HB2.out (Nat.le_refl _) (pip_some HS.out)
theorem parseInt_any (s : ByteArray) (w : World) (hs : s.size ≤ 1000000) : Calls Tryz.prog 64 #[.string s] w (ParseIntPost s.data.toList w) := by
  have hl := size_data s
  by_cases h0 : 0 < s.size
  · have hh : s.data.toList.head? = some s[0] := by rw [List.head?_eq_getElem?]; exact byte_at s 0 h0
    by_cases h45 : s[0].toNat = 45
    · have e : s[0] = 45 := UInt8.toNat_inj.1 h45
      have hsg : sgB s.data.toList = true := by unfold sgB; rw [hh, e]; rfl
      refine parseInt_neg s (s.extract 1 s.size) w hs h0 h45 hsg ?_
      unfold body
      rw [hsg, if_pos rfl, ex_data, List.take_of_length_le (by rw [List.length_drop, hl]; exact Nat.le_refl _), List.drop_one]
    · have hsg : sgB s.data.toList = false := by
        unfold sgB; rw [hh]
        simp only [beq_eq_false_iff_ne, ne_eq, Option.some.injEq]
        intro e; rw [e] at h45; exact h45 rfl
      refine parseInt_pos s s w hs (.inr ⟨h0, h45⟩) hsg ?_
      unfold body; rw [hsg]; rfl
  · have hnil : s.data.toList = [] := List.length_eq_zero_iff.1 (by omega)
    have hsg : sgB s.data.toList = false := by rw [hnil]; rfl
    refine parseInt_pos s s w hs (.inl (by omega)) hsg ?_
    unfold body; rw [hsg]; rfl
end
end Go.Proofs.YtgehimcngljmnaaGreatDoor

/- The reference's parse. -/
import Derived.Test.YthefknoicelhaaaGreatDoorFRB
import Derived.Test.YthefknoicelhaaaGreatDoorFNB
import Derived.Deep.CutBlock
namespace Go.Proofs.YthefknoicelhaaaGreatDoor
open Go.RowKit Nmx
open Rf

/-- a result in block B, a number that is being read in block B + 1 -/
structure PX (w wx : World) (neg : Bool) (num den : ByteArray) : Prop where
  r : wx.heap[w.heap.size]? = some (.cells #[.bool false, .string ⟨#[]⟩, .string ⟨#[]⟩] 135 (0, 0))
  x : wx.heap[w.heap.size + 1]? = some (.cells #[.bool neg, .string num, .string den] 135 (0, 0))
  bel : Below w.heap.size w wx
theorem PX.far {w wx w1 : World} {neg : Bool} {num den : ByteArray} (h : PX w wx neg num den) (hb : Below wx.heap.size wx w1) : PX w w1 neg num den :=
  ⟨(hb.block _ (lt_of_heap h.r)).trans h.r, (hb.block _ (lt_of_heap h.x)).trans h.x, h.bel.trans (hb.mono h.bel.size)⟩
theorem PX.new (w : World) (neg : Bool) (den : ByteArray) (o : Obj) (ho : o = .cells #[.bool false, .string ⟨#[]⟩, .string ⟨#[]⟩] 135) :
    PX w ((w.alloc o).alloc (.cells #[.bool neg, .string ⟨#[]⟩, .string den] 135)) neg ⟨#[]⟩ den := by
  subst ho
  refine ⟨?_, ?_, ?_⟩
  · rw [Below.heap_alloc _ _ _ (by simp)]; exact heap_alloc_new w _
  · have := heap_alloc_new (w.alloc (.cells #[.bool false, .string ⟨#[]⟩, .string ⟨#[]⟩] 135)) (.cells #[.bool neg, .string ⟨#[]⟩, .string den] 135)
    simpa using this
  · exact ((Below.refl w.heap.size w).alloc (Nat.le_refl _) _).alloc (by simp) _
theorem PX.set {w wx : World} {neg : Bool} {num den : ByteArray} (h : PX w wx neg num den) (i : Nat) (v : Value) {neg' : Bool} {num' den' : ByteArray} (hv : (#[Value.bool neg, .string num, .string den] : Array Value).setIfInBounds i v = #[.bool neg', .string num', .string den']) :
    PX w (wx.setCell ⟨w.heap.size + 1, i, none⟩ v) neg' num' den' := by
  refine ⟨?_, ?_, ?_⟩
  · rw [Below.heap_setCell _ _ _ _ (by simp)]; exact h.r
  · rw [← hv]; exact heap_set h.x i v
  · exact h.bel.setCell (show w.heap.size ≤ (⟨w.heap.size + 1, i, none⟩ : Addr).block from Nat.le_succ _) _
theorem PX.cells {w wx : World} {neg : Bool} {num den : ByteArray} (h : PX w wx neg num den) : wx.cell? ⟨w.heap.size + 1, 0, none⟩ = some (.bool neg) ∧ wx.cell? ⟨w.heap.size + 1, 1, none⟩ = some (.string num) ∧ wx.cell? ⟨w.heap.size + 1, 2, none⟩ = some (.string den) :=
  ⟨heap_cell h.x 0, heap_cell h.x 1, heap_cell h.x 2⟩
theorem PX.fz {w wx : World} {neg : Bool} {num den : ByteArray} (h : PX w wx neg num den) (i : Nat) : wx.frozen? ⟨w.heap.size + 1, i, none⟩ = false := heap_fz h.x i
theorem PX.drew {w wx : World} {neg : Bool} {num den : ByteArray} (h : PX w wx neg num den) : PX w wx.drew neg num den := ⟨h.r, h.x, h.bel.drew⟩
theorem PX.drewN {w wx : World} {neg : Bool} {num den : ByteArray} (h : PX w wx neg num den) (n : Nat) : PX w (wx.drewN n) neg num den := ⟨h.r, h.x, below_drewN h.bel n⟩

/-- no slash in the first k bytes -/
def NoSl (l : List UInt8) (k : Nat) : Prop := ∀ x ∈ l.take k, (x != 47) = true
theorem NoSl.zero (l : List UInt8) : NoSl l 0 := by unfold NoSl; simp
theorem NoSl.step {s : ByteArray} {k : Nat} (h : NoSl s.data.toList k) (hk : k < s.size) (hc : s[k] ≠ 47) : NoSl s.data.toList (k + 1) := fun x hx => by
  rw [List.take_add_one, byte_at s k hk] at hx
  simp only [Option.toList, List.mem_append, List.mem_singleton] at hx
  rcases hx with hx | hx
  · exact h x hx
  · subst hx; simpa using hc
theorem NoSl.all {s : ByteArray} (h : NoSl s.data.toList s.size) : upto s.data.toList = s.data.toList ∧ denB s.data.toList = [49] := by
  have h1 : ∀ x ∈ s.data.toList, (x != 47) = true := by
    have h2 := h
    unfold NoSl at h2
    rwa [List.take_of_length_le (by rw [size_data]; exact Nat.le_refl _)] at h2
  exact ⟨upto_no h1, by unfold denB; rw [contains_no h1]; rfl⟩
theorem NoSl.at_ {s : ByteArray} {k : Nat} (h : NoSl s.data.toList k) (hk : k < s.size) (hc : s[k] = 47) : upto s.data.toList = (s.extract 0 k).data.toList ∧ denB s.data.toList = (s.extract (k + 1) s.size).data.toList := by
  have e : s.data.toList = s.data.toList.take k ++ 47 :: s.data.toList.drop (k + 1) := by
    conv => lhs; rw [← List.take_append_drop k s.data.toList]
    rw [List.drop_eq_getElem_cons (by rw [size_data]; exact hk)]
    congr 2
  obtain ⟨h1, h2, h3⟩ := cut_at (b := s.data.toList.drop (k + 1)) h
  rw [← e] at h1 h2 h3
  rw [ex_data, ex_data]
  refine ⟨by rw [h1]; simp, ?_⟩
  unfold denB
  rw [if_pos h3, h2, List.take_of_length_le (by rw [List.length_drop, size_data]; omega)]

theorem body_neg (s : ByteArray) (h0 : 0 < s.size) (h : s[0] = 45) : (s.extract 1 s.size).data.toList = body s.data.toList ∧ sgB s.data.toList = true := by
  have hh : s.data.toList.head? = some 45 := by rw [List.head?_eq_getElem?, byte_at s 0 h0, h]
  have hs : sgB s.data.toList = true := by unfold sgB; rw [hh]; rfl
  refine ⟨?_, hs⟩
  unfold body
  rw [if_pos hs, ex_data, List.take_of_length_le (by rw [List.length_drop, size_data]; omega), List.drop_one]
theorem body_pos (s : ByteArray) (h0 : 0 < s.size) (h : s[0] ≠ 45) : s.data.toList = body s.data.toList ∧ sgB s.data.toList = false := by
  have hh : s.data.toList.head? = some s[0] := by rw [List.head?_eq_getElem?, byte_at s 0 h0]
  have hs : sgB s.data.toList = false := by unfold sgB; rw [hh]; simpa using h
  refine ⟨?_, hs⟩
  unfold body
  rw [hs]; rfl
/-- what parse answers -/
def ratO : Option Rat → Value
  | some q => ratV q
  | none => .agg #[.bool false, .string ⟨#[]⟩, .string ⟨#[]⟩]
def RParse (a : List UInt8) (w : World) (e : Ending) (w' : World) : Prop := e = .returned (.tuple #[ratO (ratF a), .bool (ratF a).isSome]) ∧ Below w.heap.size w w'
theorem end_r3b {fn : Func} {t t1 : Tmp} {bb : Bool} {a : Act} {w w2 : World} {neg : Bool} {num den : ByteArray} {v0 v1 v2 : Value} {Q : Ending → World → Prop} (hres : fn.results = #[.cell t 135, .tmp t1]) (hd : a.defers = []) (ht : a.tmps.getD t undef = .pointer (some ⟨w.heap.size, 0, none⟩)) (ht1 : a.tmps.getD t1 undef = .bool bb)
    (hp : PX w w2 neg num den) (hQ : ∀ w3, Below w.heap.size w w3 → Q (.returned (.tuple #[.agg #[v0, v1, v2], .bool bb])) w3) :
    bodyPost Tryz.prog fn Q .ret a (((w2.setCell ⟨w.heap.size, 0, none⟩ v0).setCell ⟨w.heap.size, 1, none⟩ v1).setCell ⟨w.heap.size, 2, none⟩ v2) := by
  have h3 := set3h (x := v0) (y := v1) (z := v2) hp.r
  have hbl := ((hp.bel.setCell (show w.heap.size ≤ (⟨w.heap.size, 0, none⟩ : Addr).block from Nat.le_refl _) v0).setCell (show w.heap.size ≤ (⟨w.heap.size, 1, none⟩ : Addr).block from Nat.le_refl _) v1).setCell (show w.heap.size ≤ (⟨w.heap.size, 2, none⟩ : Addr).block from Nat.le_refl _) v2
  generalize ((w2.setCell ⟨w.heap.size, 0, none⟩ v0).setCell ⟨w.heap.size, 1, none⟩ v1).setCell ⟨w.heap.size, 2, none⟩ v2 = w3 at *
  have k0 := heap_cell h3 0
  have k1 := heap_cell h3 1
  have k2 := heap_cell h3 2
  simp at k0 k1 k2
  refine bodyPost_ret (v := .tuple #[.agg #[v0, v1, v2], .bool bb]) ?_ hd (hQ _ hbl)
  have h1 : a.tmps[t]?.getD undef = .pointer (some ⟨w.heap.size, 0, none⟩) := by simpa using ht
  have h2 : a.tmps[t1]?.getD undef = .bool bb := by simpa using ht1
  simp [results, hres, go_sem, h1, h2, k0, k1, k2]
theorem PX.rcells {w wx : World} {neg : Bool} {num den : ByteArray} (h : PX w wx neg num den) : (wx.cell? ⟨w.heap.size, 0, none⟩ = some (.bool false) ∧ wx.cell? ⟨w.heap.size, 1, none⟩ = some (.string ⟨#[]⟩) ∧ wx.cell? ⟨w.heap.size, 2, none⟩ = some (.string ⟨#[]⟩)) ∧ (∀ i, wx.frozen? ⟨w.heap.size, i, none⟩ = false) :=
  ⟨⟨heap_cell h.r 0, heap_cell h.r 1, heap_cell h.r 2⟩, fun i => heap_fz h.r i⟩
theorem canon_trim {l : List UInt8} {n : Nat} (h : l = decN n) : digF l = true ∧ trimF l = l := by
  subst h
  exact ⟨by unfold digF; rw [decN_digits, decide_eq_true (decN_ne n)]; rfl, trimF_canon_eq _ (decN_canon n)⟩
theorem dig_trim {l : List UInt8} (h1 : digF l = true) (h2 : trimF l = l) : l = decN (dv l) := by
  unfold digF at h1
  rw [Bool.and_eq_true, decide_eq_true_eq] at h1
  rw [← trimF_decN l h1.1 h1.2, h2]
section
set_option maxRecDepth 100000
set_option maxHeartbeats 40000000
theorem refParse_pos (s : ByteArray) (w : World) (hs : s.size ≤ 90000) (h0 : 0 < s.size) : Calls Tryz.prog 108 #[.string s] w (RParse s.data.toList w) := by
  have HP0 := Lib.hid (PX.new w false ⟨#[49]⟩ _ rfl)
  have hne : s.toList.isEmpty = false := by rw [isE]; exact decide_eq_false (by omega)
  have h0i : (0 : Int) < (s.size : Int) := by omega
  have HH := Lib.hid (headD_at s h0)
  go_enter Tryz.func108, Tryz.ntmps108
  go_upto_if 15 with fail
  go_cut [5] (fun s5 wx => ∃ b : ByteArray, s5 = .string b ∧ b.data.toList = body s.data.toList ∧ b.size ≤ 90000 ∧ PX w wx (sgB s.data.toList) ⟨#[]⟩ ⟨#[49]⟩)
  case first =>
    by_cases h45 : s[0] = 45
    · have h45b : ((s[0].toNat : Int) == 45) = true := by rw [h45]; rfl
      have HB : Hid ((s.extract 1 s.size).data.toList = body s.data.toList ∧ sgB s.data.toList = true) := Lib.hid (body_neg s h0 h45)
      have hsz : (s.extract 1 s.size).size ≤ 90000 := by rw [ByteArray.size_extract]; omega
      obtain ⟨c0, c1, c2⟩ := HP0.out.cells
      have f0 := HP0.out.fz 0
      clear h45 hne HH
      go_wp2
      go_region
      all_goals go_wp2
      all_goals go_meet
      all_goals exact ⟨_, rfl, HB.out.1, hsz, by rw [HB.out.2]; exact (PX.new w true ⟨#[49]⟩ _ rfl).drew⟩
    · have h45b : ((s[0].toNat : Int) == 45) = false := by
        simp only [beq_eq_false_iff_ne, ne_eq]
        intro e
        exact h45 (UInt8.toNat_inj.1 (by have : (45 : UInt8).toNat = 45 := rfl; omega))
      have HB : Hid (s.data.toList = body s.data.toList ∧ sgB s.data.toList = false) := Lib.hid (body_pos s h0 h45)
      clear h45 hne HH
      go_wp2
      go_meet
      exact ⟨s, rfl, HB.out.1, hs, by rw [HB.out.2]; exact HP0.out⟩
  case rest =>
    obtain ⟨b, rfl, hb, hbs, hpx⟩ := hcut
    have HP := Lib.hid hpx
    have HB := Lib.hid hb
    have hbl : b.data.toList.length = b.size := size_data b
    have HBL := Lib.hid hbl
    clear hpx hb hbl HP0 HH h0 h0i hne
    go_upto_block 0 with fail
    go_cut [5] (fun s5 wx => ∃ n d : ByteArray, s5 = .string n ∧ n.data.toList = upto (body s.data.toList) ∧ d.data.toList = denB (body s.data.toList) ∧ n.size ≤ 90000 ∧ d.size ≤ 90000 ∧ PX w wx (sgB s.data.toList) ⟨#[]⟩ d)
    case first =>
      go_wp2_with fail
      go_loopg [5, 6] b.size (fun g s5 i wr => ∃ k : Nat, k ≤ b.size ∧ g = b.size - k ∧ s5 = .string b ∧ i = .int .i64 k ∧ NoSl b.data.toList k ∧ PX w wr (sgB s.data.toList) ⟨#[]⟩ ⟨#[49]⟩)
      case atStart => exact ⟨0, Nat.zero_le _, by omega, rfl, rfl, NoSl.zero _, HP.out⟩
      case round =>
        clear HP
        obtain ⟨k, hk, rfl, rfl, rfl, hno, hpx⟩ := hrel
        have HN := Lib.hid hno
        have HP := Lib.hid hpx
        clear hno hpx
        by_cases hlt : k < b.size
        · by_cases h47 : b[k] = 47
          · have h47b : ((b[k].toNat : Int) == 47) = true := by rw [h47]; rfl
            have HS := Lib.hid (HN.out.at_ hlt h47)
            have hz1 : (b.extract 0 k).size ≤ 90000 := by rw [ByteArray.size_extract]; omega
            have hz2 : (b.extract (k + 1) b.size).size ≤ 90000 := by rw [ByteArray.size_extract]; omega
            obtain ⟨c0, c1, c2⟩ := HP.out.cells
            have f2 := HP.out.fz 2
            clear h47
            go_wp2
            go_region
            all_goals go_wp2
            all_goals go_meet
            all_goals exact ⟨_, _, rfl, by rw [← HB.out, HS.out.1], by rw [← HB.out, HS.out.2], hz1, hz2, (HP.out.set 2 (.string (b.extract (k + 1) b.size)) rfl).drew⟩
          · have h47b : ((b[k].toNat : Int) == 47) = false := by
              simp only [beq_eq_false_iff_ne, ne_eq]
              intro e
              exact h47 (UInt8.toNat_inj.1 (by have : (47 : UInt8).toNat = 47 := rfl; omega))
            have HS := Lib.hid (HN.out.step hlt h47)
            clear h47
            go_wp2
            go_roundg (b.size - (k + 1))
            case rel => exact ⟨k + 1, by omega, rfl, rfl, by go_num, HS.out, HP.out⟩
            case measure => omega
        · obtain rfl : k = b.size := by omega
          have HS := Lib.hid HN.out.all
          go_wp2
          go_meet
          exact ⟨b, ⟨#[49]⟩, rfl, by rw [← HB.out, HS.out.1], by rw [← HB.out, HS.out.2], hbs, by decide, HP.out⟩
    case rest =>
      obtain ⟨n, d, rfl, hn, hd, hns, hds, hpx⟩ := hcut
      have HN := Lib.hid hn
      have HD := Lib.hid hd
      have f1 := hpx.fz 1
      have hx1 := hpx.cells.2.1
      have HPX := Lib.hid (hpx.set 1 (.string n) rfl)
      clear hn hd hpx HP HBL
      have HB0 := HB
      clear HB
      go_wp2_with fail
      clear f1 hx1
      generalize wc.setCell ⟨w.heap.size + 1, 1, none⟩ (.string n) = w0 at *
      cases hq : ratF s.data.toList with
      | some q =>
        have HQ0 := Lib.hid hq
        clear hq
        have hq := HQ0.out
        have HQ := Lib.hid hq
        obtain ⟨p1, p2, p3⟩ := parse_text hq
        have HNN : Hid (n.data.toList = decN q.num.natAbs) := Lib.hid (by rw [HN.out, p2])
        have HDD : Hid (d.data.toList = decN q.den) := Lib.hid (by rw [HD.out, p3])
        have HSG : Hid (sgB s.data.toList = decide (q.num < 0)) := Lib.hid p1
        have HSF : Hid (redQ (sgB s.data.toList) q.num.natAbs q.den = q) := Lib.hid (by rw [p1, redQ_self])
        clear p1 p2 p3 hq
        obtain ⟨e1, e2⟩ := canon_trim HNN.out
        obtain ⟨e3, e4⟩ := canon_trim HDD.out
        have hdn := fun W => refDigits_same n W (by omega)
        have hdd := fun W => refDigits_same d W (by omega)
        have htn := fun W => refTrim_same n W (by omega)
        have htd := fun W => refTrim_same d W (by omega)
        rw [e1] at hdn
        rw [e3] at hdd
        rw [e2, ← ba_eq n _ rfl] at htn
        rw [e4, ← ba_eq d _ rfl] at htd
        have hrd := fun W => refReduce_any (sgB s.data.toList) n d _ _ W HNN.out HDD.out (by omega) (by omega) q.den_pos
        rw [HSF.out] at hrd
        have htx := fun W => refText_any q W (by rw [← HNN.out, size_data]; omega) (by rw [← HDD.out, size_data]; omega)
        rw [ratF_some HQ.out, ← ba_eq s _ rfl] at htx
        have h48 : (d.toList == [48]) = false := by
          rw [ByteArray.toList_eq, HDD.out, beq_eq_false_iff_ne, ne_eq, decN_eq_zero]; exact q.den_nz
        have K0 : w0.cell? ⟨w.heap.size + 1, 0, none⟩ = some (.bool (sgB s.data.toList)) ∧ w0.cell? ⟨w.heap.size + 1, 1, none⟩ = some (.string n) ∧ w0.cell? ⟨w.heap.size + 1, 2, none⟩ = some (.string d) := HPX.out.cells
        clear e1 e2 e3 e4
        unfold ratV at hrd htx
        go_region_held3 (fun w' => w'.cell? ⟨w.heap.size + 1, 0, none⟩ = some (.bool (sgB s.data.toList)) ∧ w'.cell? ⟨w.heap.size + 1, 1, none⟩ = some (.string n) ∧ w'.cell? ⟨w.heap.size + 1, 2, none⟩ = some (.string d))
          (first | exact K0 | exact K1 | exact K2 | go_keep)
          (first
            | (go_at_call 120
               first
                | (with_reducible refine (hdn _).mono ?_; rintro e w' ⟨rfl, rfl⟩)
                | (with_reducible refine (hdd _).mono ?_; rintro e w' ⟨rfl, rfl⟩))
            | (go_at_call 121
               first
                | (with_reducible refine (htn _).mono ?_; rintro e w' ⟨rfl, rfl⟩)
                | (with_reducible refine (htd _).mono ?_; rintro e w' ⟨rfl, rfl⟩))
            | (go_at_call 122
               refine (hrd _).mono ?_
               rintro e w1 ⟨rfl, hb1⟩
               have HPX1 := Lib.hid ((HPX.out.drewN _).far hb1)
               have K1 := HPX1.out.cells)
            | (go_at_call 123
               refine (htx _).mono ?_
               rintro e w2 ⟨rfl, hb2⟩
               have HPX2 := Lib.hid (HPX1.out.far hb2)
               have K2 := HPX2.out.cells))
        have HE : Hid (ratO (ratF s.data.toList) = .agg #[.bool (sgB s.data.toList), .string n, .string d] ∧ (ratF s.data.toList).isSome = true) := Lib.hid (by
          rw [HQ.out]
          refine ⟨?_, rfl⟩
          show ratV q = _
          unfold ratV
          rw [HSG.out, ← HNN.out, ← HDD.out])
        clear K0 K1 hdn hdd htn htd hrd htx
        obtain ⟨x0, x1, x2⟩ := K2
        obtain ⟨⟨r0, r1, r2⟩, fr⟩ := HPX2.out.rcells
        go_wp2
        exact end_r3b Tryz.results108 rfl rfl rfl HPX2.out (fun w3 h => ⟨by rw [HE.out.1, HE.out.2], h⟩)
      | none =>
        have HQ0 := Lib.hid hq
        clear hq
        by_cases c1 : digF (upto (body s.data.toList)) = true
        rotate_left
        · have c1 : digF (upto (body s.data.toList)) = false := by simpa using c1
          have HC1 := Lib.hid c1
          clear c1
          have hdn := fun W => refDigits_same n W (by omega)
          have hdd := fun W => refDigits_same d W (by omega)
          have htn := fun W => refTrim_same n W (by omega)
          have htd := fun W => refTrim_same d W (by omega)
          rw [HN.out] at hdn htn
          rw [HD.out] at hdd htd
          obtain ⟨k0, k1, k2⟩ := HPX.out.cells
          rw [HC1.out] at hdn
          go_quiet ((first
            | (go_at_call 120; first
                | (with_reducible exact Calls.quiet_of_same (hdn _))
                | (with_reducible exact Calls.quiet_of_same (hdd _)))
            | (go_at_call 121; first
                | (with_reducible exact Calls.quiet_of_same (htn _))
                | (with_reducible exact Calls.quiet_of_same (htd _)))))
          obtain ⟨⟨r0, r1, r2⟩, fr⟩ := HPX.out.rcells
          go_wp2
          exact end_r3b Tryz.results108 rfl rfl rfl (HPX.out.drewN _) (fun w3 h => ⟨by rw [HQ0.out]; rfl, h⟩)
        by_cases c2 : digF (denB (body s.data.toList)) = true
        rotate_left
        · have c2 : digF (denB (body s.data.toList)) = false := by simpa using c2
          have HC1 := Lib.hid c1
          have HC2 := Lib.hid c2
          clear c1 c2
          have hdn := fun W => refDigits_same n W (by omega)
          have hdd := fun W => refDigits_same d W (by omega)
          have htn := fun W => refTrim_same n W (by omega)
          have htd := fun W => refTrim_same d W (by omega)
          rw [HN.out] at hdn htn
          rw [HD.out] at hdd htd
          obtain ⟨k0, k1, k2⟩ := HPX.out.cells
          rw [HC1.out] at hdn
          rw [HC2.out] at hdd
          go_quiet ((first
            | (go_at_call 120; first
                | (with_reducible exact Calls.quiet_of_same (hdn _))
                | (with_reducible exact Calls.quiet_of_same (hdd _)))
            | (go_at_call 121; first
                | (with_reducible exact Calls.quiet_of_same (htn _))
                | (with_reducible exact Calls.quiet_of_same (htd _)))))
          obtain ⟨⟨r0, r1, r2⟩, fr⟩ := HPX.out.rcells
          go_wp2
          exact end_r3b Tryz.results108 rfl rfl rfl (HPX.out.drewN _) (fun w3 h => ⟨by rw [HQ0.out]; rfl, h⟩)
        by_cases c3 : denB (body s.data.toList) = [48]
        · have HC1 := Lib.hid c1
          have HC2 := Lib.hid c2
          have HC3 := Lib.hid c3
          clear c1 c2 c3
          have hdn := fun W => refDigits_same n W (by omega)
          have hdd := fun W => refDigits_same d W (by omega)
          have htn := fun W => refTrim_same n W (by omega)
          have htd := fun W => refTrim_same d W (by omega)
          rw [HN.out] at hdn htn
          rw [HD.out] at hdd htd
          obtain ⟨k0, k1, k2⟩ := HPX.out.cells
          rw [HC1.out] at hdn
          rw [HC2.out] at hdd
          have h48 : (d.toList == [48]) = true := by rw [ByteArray.toList_eq, HD.out, HC3.out]; rfl
          go_quiet ((first
            | (go_at_call 120; first
                | (with_reducible exact Calls.quiet_of_same (hdn _))
                | (with_reducible exact Calls.quiet_of_same (hdd _)))
            | (go_at_call 121; first
                | (with_reducible exact Calls.quiet_of_same (htn _))
                | (with_reducible exact Calls.quiet_of_same (htd _)))))
          obtain ⟨⟨r0, r1, r2⟩, fr⟩ := HPX.out.rcells
          go_wp2
          exact end_r3b Tryz.results108 rfl rfl rfl (HPX.out.drewN _) (fun w3 h => ⟨by rw [HQ0.out]; rfl, h⟩)
        by_cases c4 : trimF (upto (body s.data.toList)) = upto (body s.data.toList)
        rotate_left
        · have HC1 := Lib.hid c1
          have HC2 := Lib.hid c2
          have HC3 := Lib.hid c3
          have HC4 := Lib.hid c4
          clear c1 c2 c3 c4
          have hdn := fun W => refDigits_same n W (by omega)
          have hdd := fun W => refDigits_same d W (by omega)
          have htn := fun W => refTrim_same n W (by omega)
          have htd := fun W => refTrim_same d W (by omega)
          rw [HN.out] at hdn htn
          rw [HD.out] at hdd htd
          obtain ⟨k0, k1, k2⟩ := HPX.out.cells
          rw [HC1.out] at hdn
          rw [HC2.out] at hdd
          have h48 : (d.toList == [48]) = false := by rw [ByteArray.toList_eq, HD.out, beq_eq_false_iff_ne]; exact HC3.out
          obtain ⟨tn, hte⟩ : ∃ tn : ByteArray, (⟨(trimF (upto (body s.data.toList))).toArray⟩ : ByteArray) = tn := ⟨_, rfl⟩
          rw [hte] at htn
          have htb : (tn.toList == n.toList) = false := by
            rw [beq_eq_false_iff_ne, ByteArray.toList_eq, ByteArray.toList_eq, ← hte, HN.out]; exact HC4.out
          clear hte
          go_quiet ((first
            | (go_at_call 120; first
                | (with_reducible exact Calls.quiet_of_same (hdn _))
                | (with_reducible exact Calls.quiet_of_same (hdd _)))
            | (go_at_call 121; first
                | (with_reducible exact Calls.quiet_of_same (htn _))
                | (with_reducible exact Calls.quiet_of_same (htd _)))))
          obtain ⟨⟨r0, r1, r2⟩, fr⟩ := HPX.out.rcells
          go_wp2
          exact end_r3b Tryz.results108 rfl rfl rfl (HPX.out.drewN _) (fun w3 h => ⟨by rw [HQ0.out]; rfl, h⟩)
        by_cases c5 : trimF (denB (body s.data.toList)) = denB (body s.data.toList)
        rotate_left
        · have HC1 := Lib.hid c1
          have HC2 := Lib.hid c2
          have HC3 := Lib.hid c3
          have HC4 := Lib.hid c4
          have HC5 := Lib.hid c5
          clear c1 c2 c3 c4 c5
          have hdn := fun W => refDigits_same n W (by omega)
          have hdd := fun W => refDigits_same d W (by omega)
          have htn := fun W => refTrim_same n W (by omega)
          have htd := fun W => refTrim_same d W (by omega)
          rw [HN.out] at hdn htn
          rw [HD.out] at hdd htd
          obtain ⟨k0, k1, k2⟩ := HPX.out.cells
          rw [HC1.out] at hdn
          rw [HC2.out] at hdd
          have h48 : (d.toList == [48]) = false := by rw [ByteArray.toList_eq, HD.out, beq_eq_false_iff_ne]; exact HC3.out
          rw [HC4.out, ← ba_eq n _ HN.out] at htn
          obtain ⟨td, hue⟩ : ∃ td : ByteArray, (⟨(trimF (denB (body s.data.toList))).toArray⟩ : ByteArray) = td := ⟨_, rfl⟩
          rw [hue] at htd
          have hub : (td.toList == d.toList) = false := by
            rw [beq_eq_false_iff_ne, ByteArray.toList_eq, ByteArray.toList_eq, ← hue, HD.out]; exact HC5.out
          clear hue
          go_quiet ((first
            | (go_at_call 120; first
                | (with_reducible exact Calls.quiet_of_same (hdn _))
                | (with_reducible exact Calls.quiet_of_same (hdd _)))
            | (go_at_call 121; first
                | (with_reducible exact Calls.quiet_of_same (htn _))
                | (with_reducible exact Calls.quiet_of_same (htd _)))))
          obtain ⟨⟨r0, r1, r2⟩, fr⟩ := HPX.out.rcells
          go_wp2
          exact end_r3b Tryz.results108 rfl rfl rfl (HPX.out.drewN _) (fun w3 h => ⟨by rw [HQ0.out]; rfl, h⟩)
        have HC1 := Lib.hid c1
        have HC2 := Lib.hid c2
        have HC3 := Lib.hid c3
        have HC4 := Lib.hid c4
        have HC5 := Lib.hid c5
        clear c1 c2 c3 c4 c5
        obtain ⟨x, hx⟩ : ∃ x, dv (upto (body s.data.toList)) = x := ⟨_, rfl⟩
        obtain ⟨z, hz⟩ : ∃ z, dv (denB (body s.data.toList)) = z := ⟨_, rfl⟩
        have HNN : Hid (n.data.toList = decN x) := Lib.hid (by rw [HN.out, ← hx]; exact dig_trim HC1.out HC4.out)
        have HDD : Hid (d.data.toList = decN z) := Lib.hid (by rw [HD.out, ← hz]; exact dig_trim HC2.out HC5.out)
        clear hx hz
        have hz0 : z ≠ 0 := fun e => HC3.out (by rw [← HD.out, HDD.out, e, decN_zero])
        obtain ⟨e1, e2⟩ := canon_trim HNN.out
        obtain ⟨e3, e4⟩ := canon_trim HDD.out
        have hdn := fun W => refDigits_same n W (by omega)
        have hdd := fun W => refDigits_same d W (by omega)
        have htn := fun W => refTrim_same n W (by omega)
        have htd := fun W => refTrim_same d W (by omega)
        rw [e1] at hdn
        rw [e3] at hdd
        rw [e2, ← ba_eq n _ rfl] at htn
        rw [e4, ← ba_eq d _ rfl] at htd
        have hrd := fun W => refReduce_any (sgB s.data.toList) n d _ _ W HNN.out HDD.out (by omega) (by omega) (by omega)
        obtain ⟨l1, l2⟩ := redQ_le (sgB s.data.toList) x z (by omega)
        obtain ⟨q, hqq⟩ : ∃ q, redQ (sgB s.data.toList) x z = q := ⟨_, rfl⟩
        rw [hqq] at hrd l1 l2
        clear hqq
        have htx := fun W => refText_any q W (dec_len_dvd (by rw [← HNN.out, size_data]; omega) l1) (dec_len_dvd (by rw [← HDD.out, size_data]; omega) l2)
        clear l1 l2
        obtain ⟨tx, hte⟩ : ∃ tx : ByteArray, (⟨(textQ q).toArray⟩ : ByteArray) = tx := ⟨_, rfl⟩
        rw [hte] at htx
        have htb : (tx.toList == s.toList) = false := by
          rw [beq_eq_false_iff_ne, ByteArray.toList_eq, ByteArray.toList_eq, ← hte]; exact parse_none HQ0.out q
        clear hte
        have h48 : (d.toList == [48]) = false := by
          rw [ByteArray.toList_eq, HDD.out, beq_eq_false_iff_ne, ne_eq, decN_eq_zero]; exact hz0
        have K0 : w0.cell? ⟨w.heap.size + 1, 0, none⟩ = some (.bool (sgB s.data.toList)) ∧ w0.cell? ⟨w.heap.size + 1, 1, none⟩ = some (.string n) ∧ w0.cell? ⟨w.heap.size + 1, 2, none⟩ = some (.string d) := HPX.out.cells
        clear e1 e2 e3 e4
        unfold ratV at hrd htx
        go_region_held3 (fun w' => w'.cell? ⟨w.heap.size + 1, 0, none⟩ = some (.bool (sgB s.data.toList)) ∧ w'.cell? ⟨w.heap.size + 1, 1, none⟩ = some (.string n) ∧ w'.cell? ⟨w.heap.size + 1, 2, none⟩ = some (.string d))
          (first | exact K0 | exact K1 | exact K2 | go_keep)
          (first
            | (go_at_call 120
               first
                | (with_reducible refine (hdn _).mono ?_; rintro e w' ⟨rfl, rfl⟩)
                | (with_reducible refine (hdd _).mono ?_; rintro e w' ⟨rfl, rfl⟩))
            | (go_at_call 121
               first
                | (with_reducible refine (htn _).mono ?_; rintro e w' ⟨rfl, rfl⟩)
                | (with_reducible refine (htd _).mono ?_; rintro e w' ⟨rfl, rfl⟩))
            | (go_at_call 122
               refine (hrd _).mono ?_
               rintro e w1 ⟨rfl, hb1⟩
               have HPX1 := Lib.hid ((HPX.out.drewN _).far hb1)
               have K1 := HPX1.out.cells)
            | (go_at_call 123
               refine (htx _).mono ?_
               rintro e w2 ⟨rfl, hb2⟩
               have HPX2 := Lib.hid (HPX1.out.far hb2)
               have K2 := HPX2.out.cells))
        clear K0 K1 K2 hdn hdd htn htd hrd htx
        obtain ⟨⟨r0, r1, r2⟩, fr⟩ := HPX2.out.rcells
        go_wp2
        exact end_r3b Tryz.results108 rfl rfl rfl HPX2.out (fun w3 h => ⟨by rw [HQ0.out]; rfl, h⟩)
end
end Go.Proofs.YthefknoicelhaaaGreatDoor
/- The reference's parse at every text. -/
namespace Go.Proofs.YthefknoicelhaaaGreatDoor
open Go.RowKit Nmx
open Rf

section
set_option maxRecDepth 100000
set_option maxHeartbeats 4000000
theorem refParse_empty (s : ByteArray) (w : World) (h0 : s.size = 0) : Calls Tryz.prog 108 #[.string s] w (RParse s.data.toList w) := by
  obtain rfl : s = ⟨#[]⟩ := ByteArray.size_eq_zero_iff.1 h0
  have HP0 := Lib.hid (PX.new w false ⟨#[49]⟩ _ rfl)
  have HQ : Hid (ratF (⟨#[]⟩ : ByteArray).data.toList = none) := Lib.hid ratF_nil
  have hdn := fun W => refDigits_same ⟨#[]⟩ W (by decide)
  have e1 : digF (⟨#[]⟩ : ByteArray).data.toList = false := rfl
  rw [e1] at hdn
  clear h0 e1
  go_enter Tryz.func108, Tryz.ntmps108
  go_wp2
  go_loopg [5, 6] 0 (fun g s5 i wr => s5 = .string ⟨#[]⟩ ∧ i = .int .i64 0 ∧ PX w wr false ⟨#[]⟩ ⟨#[49]⟩)
  case atStart => exact ⟨rfl, rfl, HP0.out⟩
  case round =>
    obtain ⟨rfl, rfl, hrel⟩ := hrel
    have HP := Lib.hid hrel
    obtain ⟨c0, c1, c2⟩ := hrel.cells
    obtain ⟨⟨r0, r1, r2⟩, fr⟩ := hrel.rcells
    have f1 := hrel.fz 1
    clear hrel HP0
    go_wp2_with fail
    have HP1 := Lib.hid (HP.out.set 1 (.string ⟨#[]⟩) rfl)
    clear c0 c1 c2 r0 r1 r2 fr f1 HP
    generalize wr.setCell ⟨w.heap.size + 1, 1, none⟩ (.string ⟨#[]⟩) = w0 at *
    obtain ⟨k0, k1, k2⟩ := HP1.out.cells
    obtain ⟨⟨r0, r1, r2⟩, fr⟩ := HP1.out.rcells
    go_quiet ((go_at_call 120; exact Calls.quiet_of_same (hdn _)))
    go_wp2
    exact end_r3b Tryz.results108 rfl rfl rfl (HP1.out.drewN _) (fun w3 h => ⟨by rw [HQ.out]; rfl, h⟩)
/-- parse at every text -/
theorem refParse_any (s : ByteArray) (w : World) (hs : s.size ≤ 90000) : Calls Tryz.prog 108 #[.string s] w (RParse s.data.toList w) := by
  rcases Nat.eq_zero_or_pos s.size with h0 | h0
  · exact refParse_empty s w h0
  · exact refParse_pos s w hs h0
end
end Go.Proofs.YthefknoicelhaaaGreatDoor
namespace Go.Proofs.YthefknoicelhaaaGreatDoor
open Go.RowKit Nmx
open Rf

/-- a number's parts as the reference keeps them -/
def PS (q : Rat) (neg : Bool) (nb db : ByteArray) : Prop := neg = decide (q.num < 0) ∧ nb.data.toList = decN q.num.natAbs ∧ db.data.toList = decN q.den
theorem PS.val {q : Rat} {neg : Bool} {nb db : ByteArray} (h : PS q neg nb db) : ratV q = .agg #[.bool neg, .string nb, .string db] := by
  obtain ⟨h1, h2, h3⟩ := h
  unfold ratV
  rw [h1, ba_eq nb _ h2, ba_eq db _ h3]
theorem PS.of (q : Rat) : PS q (decide (q.num < 0)) ⟨(decN q.num.natAbs).toArray⟩ ⟨(decN q.den).toArray⟩ := ⟨rfl, rfl, rfl⟩
theorem PS.zero {q : Rat} {neg : Bool} {nb db : ByteArray} (h : PS q neg nb db) : (nb.toList == [48]) = decide (q.num = 0) := by
  rw [ByteArray.toList_eq, h.2.1, Bool.eq_iff_iff, beq_iff_eq, decN_eq_zero, decide_eq_true_eq]; omega
theorem PS.one {q : Rat} {neg : Bool} {nb db : ByteArray} (h : PS q neg nb db) : (db.toList == [49]) = decide (q.den = 1) := by
  rw [ByteArray.toList_eq, h.2.2, Bool.eq_iff_iff, beq_iff_eq, decN_eq_one, decide_eq_true_eq]
theorem parseSome (s : ByteArray) {q : Rat} (hs : s.size ≤ 90000) (hq : ratF s.data.toList = some q) : ∃ neg nb db, PS q neg nb db ∧ nb.size ≤ s.size ∧ db.size ≤ s.size ∧ ∀ W, Calls Tryz.prog 108 #[.string s] W fun e w' => e = .returned (.tuple #[.agg #[.bool neg, .string nb, .string db], .bool true]) ∧ Below W.heap.size W w' := by
  have hl := congrArg List.length (ratF_some hq)
  rw [size_data] at hl
  have h1 := decI_ge q.num
  have hp := decN_len_pos q.num.natAbs
  refine ⟨_, _, _, PS.of q, ?_, ?_, fun W => ?_⟩
  · rw [sz_txt, ← hl]; unfold textQ; rw [List.length_append]; omega
  · rw [sz_txt, ← hl]; unfold textQ; rw [List.length_append]
    by_cases h : q.den = 1
    · rw [h, decN_one]
      simp; omega
    · rw [if_neg h, List.length_cons]; omega
  · refine (refParse_any s W hs).mono fun e w' h => ?_
    unfold RParse at h
    rw [hq] at h
    exact h
theorem parseNone (s : ByteArray) (hs : s.size ≤ 90000) (hq : ratF s.data.toList = none) (W : World) : Calls Tryz.prog 108 #[.string s] W fun e w' => e = .returned (.tuple #[.agg #[.bool false, .string ⟨#[]⟩, .string ⟨#[]⟩], .bool false]) ∧ Below W.heap.size W w' := by
  refine (refParse_any s W hs).mono fun e w' h => ?_
  unfold RParse at h
  rw [hq] at h
  exact h
def isI (l : List UInt8) : Bool := match ratF l with | some q => decide (q.den = 1) | none => false
def sgO (l : List UInt8) : Int := sgnI ((ratF l).getD 0).num
section
set_option maxRecDepth 100000
set_option maxHeartbeats 4000000
theorem refValid_any (s : ByteArray) (w : World) (hs : s.size ≤ 90000) : Calls Tryz.prog 87 #[.string s] w fun e w' => e = .returned (.bool (ratF s.data.toList).isSome) ∧ Below w.heap.size w w' := by
  cases hq : ratF s.data.toList with
  | none =>
    have hp := parseNone s hs hq w
    clear hq
    go_enter Tryz.func87, Tryz.ntmps87
    go_wp2_with fail
    refine hp.mono ?_
    rintro e w1 ⟨rfl, hb1⟩
    have HB := Lib.hid hb1
    clear hb1 hp
    go_wp2
    go_ret
    exact ⟨rfl, HB.out.alloc HB.out.size _⟩
  | some q =>
    obtain ⟨neg, nb, db, -, -, -, hp⟩ := parseSome s hs hq
    have hp := hp w
    clear hq
    go_enter Tryz.func87, Tryz.ntmps87
    go_wp2_with fail
    refine hp.mono ?_
    rintro e w1 ⟨rfl, hb1⟩
    have HB := Lib.hid hb1
    clear hb1 hp
    go_wp2
    go_ret
    exact ⟨rfl, HB.out.alloc HB.out.size _⟩
theorem refIsInt_any (s : ByteArray) (w : World) (hs : s.size ≤ 90000) : Calls Tryz.prog 86 #[.string s] w fun e w' => e = .returned (.bool (isI s.data.toList)) ∧ Below w.heap.size w w' := by
  cases hq : ratF s.data.toList with
  | none =>
    have hp := parseNone s hs hq w
    have HI : Hid (isI s.data.toList = false) := Lib.hid (by unfold isI; rw [hq])
    clear hq
    go_enter Tryz.func86, Tryz.ntmps86
    go_wp2_with fail
    refine hp.mono ?_
    rintro e w1 ⟨rfl, hb1⟩
    have HB := Lib.hid hb1
    clear hb1 hp
    go_wp2
    go_ret
    exact ⟨ret_bool HI.out.symm, HB.out.alloc HB.out.size _⟩
  | some q =>
    obtain ⟨neg, nb, db, hps, -, -, hp⟩ := parseSome s hs hq
    have hp := hp w
    have hd := hps.one
    have HI : Hid (isI s.data.toList = decide (q.den = 1)) := Lib.hid (by unfold isI; rw [hq])
    clear hq hps
    generalize decide (q.den = 1) = bb at *
    go_enter Tryz.func86, Tryz.ntmps86
    go_wp2_with fail
    refine hp.mono ?_
    rintro e w1 ⟨rfl, hb1⟩
    have HB := Lib.hid hb1
    clear hb1 hp
    go_wp2
    go_ret
    exact ⟨ret_bool HI.out.symm, HB.out.alloc HB.out.size _⟩

theorem refSign_any (s : ByteArray) (w : World) (hs : s.size ≤ 90000) : Calls Tryz.prog 95 #[.string s] w fun e w' => e = .returned (.int .i64 (sgO s.data.toList)) ∧ Below w.heap.size w w' := by
  cases hq : ratF s.data.toList with
  | none =>
    have hp := parseNone s hs hq w
    have HI : Hid (sgO s.data.toList = 0) := Lib.hid (by unfold sgO; rw [hq]; rfl)
    clear hq
    go_enter Tryz.func95, Tryz.ntmps95
    go_wp2_with fail
    refine hp.mono ?_
    rintro e w1 ⟨rfl, hb1⟩
    have HB := Lib.hid hb1
    clear hb1 hp
    go_wp2
    go_ret
    exact ⟨ret_int HI.out.symm, HB.out.alloc HB.out.size _⟩
  | some q =>
    obtain ⟨neg, nb, db, hps, -, -, hp⟩ := parseSome s hs hq
    have hp := hp w
    have hz := hps.zero
    have HG : Hid (neg = decide (q.num < 0)) := Lib.hid hps.1
    have HI : Hid (sgO s.data.toList = sgnI q.num) := Lib.hid (by unfold sgO; rw [hq]; rfl)
    clear hq hps
    by_cases h0 : q.num = 0
    · rw [decide_eq_true h0] at hz
      have HS : Hid (sgnI q.num = 0) := Lib.hid (by rw [h0]; rfl)
      clear h0
      go_enter Tryz.func95, Tryz.ntmps95
      go_wp2_with fail
      refine hp.mono ?_
      rintro e w1 ⟨rfl, hb1⟩
      have HB := Lib.hid hb1
      clear hb1 hp
      go_wp2
      go_ret
      exact ⟨ret_int (by rw [HI.out, HS.out]), HB.out.alloc HB.out.size _⟩
    · rw [decide_eq_false h0] at hz
      cases neg
      · have HS : Hid (sgnI q.num = 1) := Lib.hid (by have := HG.out; have h1 : ¬ q.num < 0 := (by simpa using this.symm); unfold sgnI; rw [if_neg h1, if_pos (by omega)])
        clear h0
        go_enter Tryz.func95, Tryz.ntmps95
        go_wp2_with fail
        refine hp.mono ?_
        rintro e w1 ⟨rfl, hb1⟩
        have HB := Lib.hid hb1
        clear hb1 hp
        go_wp2
        go_ret
        exact ⟨ret_int (by rw [HI.out, HS.out]), HB.out.alloc HB.out.size _⟩
      · have HS : Hid (sgnI q.num = -1) := Lib.hid (by have := HG.out; have h1 : q.num < 0 := (by simpa using this.symm); unfold sgnI; rw [if_pos h1])
        clear h0
        go_enter Tryz.func95, Tryz.ntmps95
        go_wp2_with fail
        refine hp.mono ?_
        rintro e w1 ⟨rfl, hb1⟩
        have HB := Lib.hid hb1
        clear hb1 hp
        go_wp2
        go_ret
        exact ⟨ret_int (by rw [HI.out, HS.out]), HB.out.alloc HB.out.size _⟩
end
end Go.Proofs.YthefknoicelhaaaGreatDoor
namespace Go.Proofs.YthefknoicelhaaaGreatDoor
open Go.RowKit Nmx
open Rf

end Go.Proofs.YthefknoicelhaaaGreatDoor
/- The reference's Mul, Div. -/
namespace Go.Proofs.YthefknoicelhaaaGreatDoor
open Go.RowKit Nmx
open Rf

end Go.Proofs.YthefknoicelhaaaGreatDoor
namespace Go.Proofs.YthefknoicelhaaaGreatDoor
open Go.RowKit Nmx
open Rf

end Go.Proofs.YthefknoicelhaaaGreatDoor
/- The reference's functions at texts of numbers; Floor, Sub. -/
namespace Go.Proofs.YthefknoicelhaaaGreatDoor
open Go.RowKit Nmx
open Rf

/-- the text of a number -/
def TX (q : Rat) : ByteArray := ⟨(textQ q).toArray⟩
theorem tx_size (q : Rat) : (TX q).size = (textQ q).length := sz_txt _
theorem DS.sz {d : Nat} {q : Rat} (h : DS d q) : (TX q).size ≤ 2 * d + 4 := by rw [tx_size]; exact Nmx.DS.len h
theorem PS.fl {neg : Bool} {z : Int} {n : Nat} (h : sgn neg n = z) (h0 : neg = true → n ≠ 0) : PS (z : Rat) neg ⟨(decN n).toArray⟩ ⟨#[49]⟩ := by
  subst h
  refine ⟨?_, ?_, ?_⟩
  · rw [Rat.num_intCast]
    cases neg
    · simp [sgn]
    · have := h0 rfl
      simp [sgn]; omega
  · rw [Rat.num_intCast, sgn_natAbs]
  · rw [Rat.den_intCast, decN_one]
end Go.Proofs.YthefknoicelhaaaGreatDoor
namespace Nmx
end Nmx
namespace Go.Proofs.YthefknoicelhaaaGreatDoor
open Go.RowKit Nmx
open Rf

end Go.Proofs.YthefknoicelhaaaGreatDoor
namespace Go.Proofs.YthefknoicelhaaaGreatDoor
open Go.RowKit Nmx
open Rf

end Go.Proofs.YthefknoicelhaaaGreatDoor

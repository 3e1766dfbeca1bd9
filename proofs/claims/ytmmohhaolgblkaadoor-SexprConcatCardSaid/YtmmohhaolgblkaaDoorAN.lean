/- Every item is a root or an element of exactly one item: what the statement's loop counts. -/
import Derived.Test.YtmmohhaolgblkaaDoorAM
import Derived.Test.YtmmohhaolgblkaaDoorAA
namespace Go.Proofs.YtmmohhaolgblkaaDoor
open Go.RowKit

theorem trailF_len (E : List Nat) (u : Nat) : ∀ (f i : Nat), (trailF f E i u).length ≤ f
  | 0, _ => Nat.le_refl _
  | f + 1, i => by
    simp only [trailF]
    split
    · have := trailF_len E u f (E.getD i 0)
      simp only [List.length_cons]; omega
    · simp
theorem trail_len (E : List Nat) (i u : Nat) : (trail E i u).length ≤ u - i := trailF_len E u _ i
/-- what round j adds: the roots, then item by item its elements -/
def addL (E : List Nat) (n : Nat) : Nat → List Nat
  | 0 => trail E 0 n
  | p + 1 => trail E (p + 1) (E.getD p 0)
def procL (E : List Nat) (n : Nat) : Nat → List Nat
  | 0 => []
  | j + 1 => procL E n j ++ addL E n j
theorem procL_all (E : List Nat) (n : Nat) : ∀ j, procL E n (j + 1) = trail E 0 n ++ (List.range' 0 j).flatMap fun i => trail E (i + 1) (E.getD i 0)
  | 0 => by simp [procL, addL]
  | j + 1 => by
    rw [procL, procL_all E n j, List.range'_1_concat, List.flatMap_append, List.append_assoc]
    simp [addL]
theorem procL_count (E : List Nat) (n : Nat) : ∀ (d j t : Nat), List.count t (procL E n j) ≤ List.count t (procL E n (j + d))
  | 0, j, t => Nat.le_refl _
  | d + 1, j, t => by
    have := procL_count E n d j t
    rw [← Nat.add_assoc, procL, List.count_append]; omega
structure Once (E : List Nat) (n : Nat) : Prop where
  all : ∀ t, List.count t (procL E n (n + 1)) = if t < n then 1 else 0
theorem Once.le {E : List Nat} {n : Nat} (h : Once E n) {j : Nat} (hj : j ≤ n) (q t : Nat) : List.count t (procL E n j ++ (addL E n j).take q) ≤ 1 := by
  have h1 := procL_count E n (n - j) (j + 1) t
  rw [show j + 1 + (n - j) = n + 1 by omega, h.all t, procL, List.count_append] at h1
  have h2 := (List.take_sublist q (addL E n j)).count_le t
  rw [List.count_append]
  split at h1 <;> omega
theorem count_range' (t : Nat) : ∀ (n a : Nat), List.count t (List.range' a n) = if a ≤ t ∧ t < a + n then 1 else 0
  | 0, a => by rw [if_neg (by omega)]; rfl
  | n + 1, a => by
    rw [List.range'_succ, List.count_cons, count_range' t n (a + 1)]
    by_cases e : a = t
    · subst e
      rw [if_neg (by omega), if_pos (by simp), if_pos (by omega)]
    · have e' : (a == t) = false := by simpa using e
      simp only [e', Bool.false_eq_true, if_false]
      by_cases h : a + 1 ≤ t ∧ t < a + 1 + n
      · rw [if_pos h, if_pos (by omega)]
      · rw [if_neg h, if_neg (by omega)]
theorem Lay.once {d c : Nat} {its : List It} {E : List Nat} (h : Lay d 0 its E c) (hv : Vd its E) : Once E its.length := by
  obtain ⟨_, h2, _⟩ := h.trail E [] its.length hv.up (by omega) (by simp)
  refine ⟨fun t => ?_⟩
  rw [procL_all, List.count_append]
  have := h2 t
  rw [Nat.zero_add] at this
  rw [this]
  rw [count_range']
  simp
def trow (n : Nat) (L : List Nat) : List Value := (List.range n).map fun t => Value.int .i64 (List.count t L : Nat)
theorem trow_len (n : Nat) (L : List Nat) : (trow n L).length = n := by simp [trow]
theorem trow_nil (n : Nat) : rowE n [] = trow n [] := by
  unfold rowE trow
  apply List.ext_getElem
  · simp
  · intro i h1 h2; simp
theorem trow_get {n : Nat} {L : List Nat} {t : Nat} (h : t < n) : (trow n L)[t]? = some (.int .i64 (List.count t L : Nat)) := by
  simp [trow, h]
theorem trow_set {n : Nat} {L : List Nat} {x : Nat} : (trow n L).set x (.int .i64 ((List.count x L : Nat) + 1)) = trow n (L ++ [x]) := by
  apply List.ext_getElem
  · simp [trow]
  · intro i h1 h2
    simp only [trow, List.length_set, List.length_map, List.length_range] at h1
    rw [List.getElem_set]
    simp only [trow, List.getElem_map, List.getElem_range, List.count_append, List.count_singleton]
    by_cases e : x = i
    · subst e; simp
    · simp [e]

set_option maxHeartbeats 2000000 in
set_option maxRecDepth 100000 in
theorem structure_any (ao : Option Addr) (len cap : Nat) (m : Int) (w : World) (h : ArgI w ao len cap) (hB : 0 < w.heap.size) (hM : w.cell? ⟨0, 0, none⟩ = some (.int .i64 m)) :
    Calls Tryd.prog 9 #[.slice ao len cap] w fun e w' => e = .returned (.bool true) ∧ Below w.heap.size w w' := by
  obtain ⟨i0, hi, hz0, hz1, hz2⟩ := info_parts infoInt
  have hsq := sequence_any ao len cap w h
  clear h
  go_enter Tryd.func9, Tryd.ntmps9
  go_wp2_with fail
  refine hsq.mono ?_
  rintro e w1 ⟨v, its, ts, rfl, hF, _, hfew, _, htx, hown, hb1⟩
  obtain ⟨a1, g1, c1, rfl, hl, hA, hg1, hI⟩ := lies_of hown (by have := hb1.size; omega)
  obtain ⟨E, hV, hL⟩ := hF.vd (by omega)
  have hO := hL.once hV
  obtain ⟨_, _, hkids⟩ := hL.trail E [] its.length hV.up (by omega) (by simp)
  have HB1 := Lib.hid hb1
  have hM1 : w1.cell? ⟨0, 0, none⟩ = some (.int .i64 m) := (hb1.cell (p := ⟨0, 0, none⟩) hB).trans hM
  have HX : Hid (ItemsAt w1 g1 its ∧ (∀ x ∈ its, x.text.size < 4294967281) ∧ w1.cell? ⟨0, 0, none⟩ = some (.int .i64 m) ∧ Vd its E ∧ Once E its.length ∧ (∀ t x, its[t]? = some x → ((trail E (0 + t + 1) (E.getD (0 + t) 0)).length : Int) = x.kids)) :=
    Lib.hid ⟨hI, fun x hx => by have := htx x hx; omega, hM1, hV, hO, hkids⟩
  have HA := Lib.hid hA
  have hB1 : 0 < w1.heap.size := by have := hb1.size; omega
  generalize hn : its.length = n at *
  have HN := Lib.hid hn
  clear hsq hown hb1 hI hV hL hO hkids hM1 hM htx hF hl hA hn
  go_wp2_with (refine wpList_make_full _ rfl (.tmp 13) (.tmp 13) 24 rfl w1.heap.size 3 i0 (.int .i64 0) 1 Tryd.underlying24 hi hz0 hz1 .i64 .i64 n n n rfl rfl rfl rfl (by rw [hz2]; omega) (by unfold maxLen; omega) (Nat.le_refl _) ?_; intro w2 hown2 hgrow2)
  have hbel2 : Below w1.heap.size w1 w2 := (Below.refl _ _).grown hgrow2 (Nat.le_refl _) (fun k h => by cases h)
  have hown3 : Hid (w2.ownsRow w1.heap.size 3 1 (.slice (some ⟨w1.heap.size, 0, none⟩) n n) n (trow n [])) := Lib.hid (by
    have e : (madeCells (Value.cells (.int .i64 0)) (n * 1)).toList = trow n [] := (made_zero n).trans (trow_nil n)
    rwa [e] at hown2)
  have HB2 := Lib.hid hbel2
  have hT2 := (hown3.out.lt w1.heap.size rfl).2
  have hrt := roots_any a1 g1 c1 n its E m w2 (by omega) HN.out HA.out (by omega) (HX.out.1.below HB2.out hg1) HX.out.2.1 ((HB2.out.cell (p := ⟨0, 0, none⟩) hB1).trans HX.out.2.2.1) HX.out.2.2.2.1
  clear hown2 hgrow2 hbel2
  go_wp2_with fail
  refine hrt.mono ?_
  rintro e w3 ⟨vr, rfl, hor, hb3⟩
  have HO := Lib.hid HX.out.2.2.2.2.1
  have HT0 := Lib.hid (ownsRow_below hown3.out hb3 (fun g hg => (hown3.out.lt g hg).2))
  have HR0 := Lib.hid (ownsRow_mono hor (b' := w1.heap.size + 1) (by omega))
  have HB0 := Lib.hid (HB2.out.trans (hb3.mono HB2.out.size))
  clear hown3 HB2 hrt hor hb3
  generalize hT : w1.heap.size = T at *
  have HTe := Lib.hid hT
  clear hT
  obtain ⟨K0, hK0⟩ : ∃ K0, trail E 0 n = K0 := ⟨_, rfl⟩
  rw [hK0] at HR0
  have HK0 := Lib.hid hK0
  clear hK0
  go_wp2_with fail
  go_loopw [6] (fun i wr => ∃ (j : Nat) (ii : Int), j ≤ n + 1 ∧ i = .int .i64 ii ∧ ii = (j : Int) - 1 ∧ wr.ownsRow T 3 1 (.slice (some ⟨T, 0, none⟩) n n) n (trow n (procL E n j)) ∧ wr.ownsRow (T + 1) 3 1 vr K0.length (ints K0) ∧ Below T w1 wr)
    (fun i _ => ((n : Int) - intOf i).toNat)
  case atStart => exact ⟨0, -1, by omega, rfl, rfl, HT0.out, HR0.out, HB0.out⟩
  case round =>
    obtain ⟨j, ii, hj, rfl, hii, hTr, hRr, hBr⟩ := hrel
    have HTx := Lib.hid hTr
    have HRx := Lib.hid hRr
    have HBx := Lib.hid hBr
    have hszr : T < wr.heap.size := (hTr.lt T rfl).2
    clear hTr hRr hBr HT0 HR0 HB0
    by_cases hlt : ii < (n : Int)
    · have hjn : j ≤ n := by omega
      cases j with
      | zero =>
        have hneg : ¬ (0 : Int) ≤ ii := by omega
        obtain ⟨ak, ck, hvk, hAk⟩ : ∃ ak ck, vr = .slice ak K0.length ck ∧ (0 < K0.length → ∃ g, ak = some ⟨g, 0, none⟩ ∧ T + 1 ≤ g) := by
          obtain ⟨_, h | ⟨g, cp, cur, h, hg, _⟩⟩ := HRx.out
          · exact ⟨none, 0, by rw [h.1, h.2], fun h0 => by omega⟩
          · exact ⟨_, cp, h, fun _ => ⟨g, rfl, hg⟩⟩
        subst hvk
        have HKx := HRx
        have HKm : Hid (∀ x ∈ K0, ii < (x : Int) ∧ x < n) := Lib.hid (fun x hx => by
          rw [← HK0.out] at hx
          have := trail_mem (fun q hq => HX.out.2.2.2.1.up q (by have := HN.out; omega)) n 0 x (by omega) hx
          omega)
        have HKe : Hid (addL E n 0 = K0) := Lib.hid (by rw [← HK0.out]; rfl)
        have hKl : K0.length ≤ n := by have := trail_len E 0 n; rw [HK0.out] at this; omega
        go_wp2_with fail
        go_loopw [8] (fun q wq => ∃ k : Nat, k ≤ K0.length ∧ q = .int .i64 k ∧ wq.ownsRow T 3 1 (.slice (some ⟨T, 0, none⟩) n n) n (trow n (procL E n 0 ++ K0.take k)) ∧ wq.ownsRow (T + 1) 3 1 (.slice ak K0.length ck) K0.length (ints K0) ∧ wq.ownsRow (T + 1) 3 1 (.slice ak K0.length ck) K0.length (ints K0) ∧ Below T w1 wq)
          (fun q _ => K0.length - (intOf q).toNat)
        case atStart => exact ⟨0, Nat.zero_le _, rfl, by rw [List.take_zero, List.append_nil]; exact HTx.out, HRx.out, HKx.out, HBx.out⟩
        case round =>
          obtain ⟨k, hk, rfl, hTq, hRq, hKq, hBq⟩ := hrel
          have HTq := Lib.hid hTq
          have HRq := Lib.hid hRq
          have HKq := Lib.hid hKq
          have HBq := Lib.hid hBq
          have hTl := (hTq.lt T rfl).2
          clear hTq hRq hKq hBq HTx HRx HKx HBx
          by_cases hlk : k < K0.length
          · obtain ⟨gk, rfl, hgk⟩ := hAk (by omega)
            obtain ⟨x, hx⟩ : ∃ x, K0[k]? = some x := ⟨_, List.getElem?_eq_getElem hlk⟩
            have hxm := HKm.out x (List.mem_of_getElem? hx)
            have hcx : wr.cell? ⟨gk, k, none⟩ = some (.int .i64 x) := by
              rw [HKq.out.cellAt k (by omega)]; simp [ints, hx]
            have hxn := hxm.2
            have hcT : wr.cell? ⟨T, x, none⟩ = some (.int .i64 (List.count x (procL E n 0 ++ K0.take k) : Nat)) := by
              rw [HTq.out.cellAt x (by omega)]; exact trow_get hxn
            have hfT : wr.frozen? ⟨T, x, none⟩ = false := HTq.out.frozenAt _
            have hcnt : List.count x (procL E n 0 ++ K0.take k) ≤ 1 := by
              have := HO.out.le hjn k x
              rw [HKe.out] at this
              exact this
            have hlx : ¬ (x : Int) ≤ ii := by have := hxm.1; omega
            have hxn2 : ¬ (n : Int) ≤ (x : Int) := by omega
            have hxn3 : (x : Int) < (n : Int) := by omega
            have HT2q : Hid ((wr.setCell ⟨T, x, none⟩ (.int .i64 ((List.count x (procL E n 0 ++ K0.take k) : Nat) + 1))).ownsRow T 3 1 (.slice (some ⟨T, 0, none⟩) n n) n (trow n (procL E n 0 ++ K0.take (k + 1)))) := Lib.hid (by
              have := (HTq.out.stored x (.int .i64 ((List.count x (procL E n 0 ++ K0.take k) : Nat) + 1))).1
              rw [trow_set, List.append_assoc] at this
              have e : K0.take (k + 1) = K0.take k ++ [x] := by
                rw [List.take_add_one, hx]; rfl
              rw [e]; exact this)
            have hneK : (Value.slice (some ⟨gk, 0, none⟩) K0.length ck).ownBlock ≠ some T := fun e => by have := (HKq.out.lt T e).1; omega
            have hneR : (Value.slice (some ⟨gk, 0, none⟩) K0.length ck).ownBlock ≠ some T := fun e => by have := (HRq.out.lt T e).1; omega
            have HR2q := Lib.hid (ownsRow_setCell_other (a := ⟨T, x, none⟩) HRq.out hneR (.int .i64 ((List.count x (procL E n 0 ++ K0.take k) : Nat) + 1)))
            have HK2q := Lib.hid (ownsRow_setCell_other (a := ⟨T, x, none⟩) HKq.out hneK (.int .i64 ((List.count x (procL E n 0 ++ K0.take k) : Nat) + 1)))
            have HB2q := Lib.hid (HBq.out.setCell (p := ⟨T, x, none⟩) (Nat.le_refl T) (.int .i64 ((List.count x (procL E n 0 ++ K0.take k) : Nat) + 1)))
            clear hx hxm hneK hneR
            generalize List.count x (procL E n 0 ++ K0.take k) = cnt at *
            go_wp2
            go_roundw
            case rel => exact ⟨k + 1, by omega, by go_num, HT2q.out, HR2q.out, HK2q.out, HB2q.out⟩
            case measure => simp [intOf]; omega
          · have hkl : k = K0.length := by omega
            have HTe : Hid (wr.ownsRow T 3 1 (.slice (some ⟨T, 0, none⟩) n n) n (trow n (procL E n (0 + 1)))) := Lib.hid (by
              have := HTq.out
              rw [hkl, List.take_length] at this
              rw [show procL E n (0 + 1) = procL E n 0 ++ addL E n 0 from rfl, HKe.out]; exact this)
            clear hkl
            go_wp2
            go_roundw
            case rel => exact ⟨0 + 1, ii + 1, by omega, congrArg (Value.int .i64) (by omega), by omega, HTe.out, HRq.out, HBq.out⟩
            case measure => simp [intOf]; omega
      | succ p =>
        have hp : p < n := by omega
        obtain rfl : ii = (p : Int) := by omega
        have hneg : (0 : Int) ≤ (p : Int) := by omega
        have hch := children_any a1 g1 c1 n p its E m wr (by omega) HN.out HA.out (by have := HTe.out; omega) (HX.out.1.below HBx.out hg1) HX.out.2.1 ((HBx.out.cell (p := ⟨0, 0, none⟩) hB1).trans HX.out.2.2.1) HX.out.2.2.2.1 hp
        obtain ⟨y, hy⟩ : ∃ y, its[p]? = some y := ⟨_, List.getElem?_eq_getElem (by have := HN.out; omega)⟩
        have hkd := HX.out.2.2.2.2.2 p y hy
        rw [Nat.zero_add] at hkd
        obtain ⟨K, hKK⟩ : ∃ K, trail E (p + 1) (E.getD p 0) = K := ⟨_, rfl⟩
        rw [hKK] at hch hkd
        have HKm : Hid (∀ x ∈ K, (p : Int) < (x : Int) ∧ x < n) := Lib.hid (fun x hx => by
          rw [← hKK] at hx
          have hm1 := HX.out.2.2.2.1.most p (by have := HX.out.2.2.2.1.len; have := HN.out; omega)
          rw [HX.out.2.2.2.1.len, HN.out] at hm1
          have := trail_mem (fun q hq => HX.out.2.2.2.1.up q (by have := HN.out; omega)) n (p + 1) x (by omega) hx
          omega)
        have HKe : Hid (addL E n (p + 1) = K) := Lib.hid hKK
        have hKl : K.length ≤ n := by
          have hm1 := HX.out.2.2.2.1.most p (by have := HX.out.2.2.2.1.len; have := HN.out; omega)
          rw [HX.out.2.2.2.1.len, HN.out] at hm1
          have := trail_len E (p + 1) (E.getD p 0)
          rw [hKK] at this; omega
        clear hKK
        have HKd := Lib.hid hkd
        have HY := Lib.hid hy
        clear hkd hy hii
        go_wp2_with fail
        refine hch.mono ?_
        rintro e wc ⟨vk, rfl, hkr, hbc⟩
        have hyc : wc.cell? ⟨g1, p * 4 + 2, none⟩ = some (.int .i64 y.kids) := by
          have := (HX.out.1.below (HBx.out.trans (hbc.mono (by omega))) hg1) p y HY.out 2 (by omega)
          exact this
        rw [← HKd.out] at hyc
        obtain rfl := HA.out (by omega)
        have HTx2 := Lib.hid (ownsRow_below HTx.out hbc (fun g hg => (HTx.out.lt g hg).2))
        have HRx2 := Lib.hid (ownsRow_below HRx.out hbc (fun g hg => (HRx.out.lt g hg).2))
        have HBx2 := Lib.hid (HBx.out.trans (hbc.mono (by omega)))
        have HKx := Lib.hid (ownsRow_mono hkr (b' := T + 1) (by omega))
        obtain ⟨ak, ck, hvk, hAk⟩ : ∃ ak ck, vk = .slice ak K.length ck ∧ (0 < K.length → ∃ g, ak = some ⟨g, 0, none⟩ ∧ T + 1 ≤ g) := by
          obtain ⟨_, h | ⟨g, cp, cur, h, hg, _⟩⟩ := HKx.out
          · exact ⟨none, 0, by rw [h.1, h.2], fun h0 => by omega⟩
          · exact ⟨_, cp, h, fun _ => ⟨g, rfl, hg⟩⟩
        subst hvk
        have hn1 : (p : Int) < (n : Int) := by omega
        clear hch hkr hbc HTx HRx HBx
        go_wp2_with fail
        go_loopw [8] (fun q wq => ∃ k : Nat, k ≤ K.length ∧ q = .int .i64 k ∧ wq.ownsRow T 3 1 (.slice (some ⟨T, 0, none⟩) n n) n (trow n (procL E n (p + 1) ++ K.take k)) ∧ wq.ownsRow (T + 1) 3 1 vr K0.length (ints K0) ∧ wq.ownsRow (T + 1) 3 1 (.slice ak K.length ck) K.length (ints K) ∧ Below T w1 wq)
          (fun q _ => K.length - (intOf q).toNat)
        case atStart => exact ⟨0, Nat.zero_le _, rfl, by rw [List.take_zero, List.append_nil]; exact HTx2.out, HRx2.out, HKx.out, HBx2.out⟩
        case round =>
          obtain ⟨k, hk, rfl, hTq, hRq, hKq, hBq⟩ := hrel
          have HTq := Lib.hid hTq
          have HRq := Lib.hid hRq
          have HKq := Lib.hid hKq
          have HBq := Lib.hid hBq
          have hTl := (hTq.lt T rfl).2
          clear hTq hRq hKq hBq HTx2 HRx2 HKx HBx2
          by_cases hlk : k < K.length
          · obtain ⟨gk, rfl, hgk⟩ := hAk (by omega)
            obtain ⟨x, hx⟩ : ∃ x, K[k]? = some x := ⟨_, List.getElem?_eq_getElem hlk⟩
            have hxm := HKm.out x (List.mem_of_getElem? hx)
            have hcx : wr.cell? ⟨gk, k, none⟩ = some (.int .i64 x) := by
              rw [HKq.out.cellAt k (by omega)]; simp [ints, hx]
            have hxn := hxm.2
            have hcT : wr.cell? ⟨T, x, none⟩ = some (.int .i64 (List.count x (procL E n (p + 1) ++ K.take k) : Nat)) := by
              rw [HTq.out.cellAt x (by omega)]; exact trow_get hxn
            have hfT : wr.frozen? ⟨T, x, none⟩ = false := HTq.out.frozenAt _
            have hcnt : List.count x (procL E n (p + 1) ++ K.take k) ≤ 1 := by
              have := HO.out.le hjn k x
              rw [HKe.out] at this
              exact this
            have hlx : ¬ (x : Int) ≤ (p : Int) := by have := hxm.1; omega
            have hxn2 : ¬ (n : Int) ≤ (x : Int) := by omega
            have hxn3 : (x : Int) < (n : Int) := by omega
            have HT2q : Hid ((wr.setCell ⟨T, x, none⟩ (.int .i64 ((List.count x (procL E n (p + 1) ++ K.take k) : Nat) + 1))).ownsRow T 3 1 (.slice (some ⟨T, 0, none⟩) n n) n (trow n (procL E n (p + 1) ++ K.take (k + 1)))) := Lib.hid (by
              have := (HTq.out.stored x (.int .i64 ((List.count x (procL E n (p + 1) ++ K.take k) : Nat) + 1))).1
              rw [trow_set, List.append_assoc] at this
              have e : K.take (k + 1) = K.take k ++ [x] := by
                rw [List.take_add_one, hx]; rfl
              rw [e]; exact this)
            have hneK : (Value.slice (some ⟨gk, 0, none⟩) K.length ck).ownBlock ≠ some T := fun e => by have := (HKq.out.lt T e).1; omega
            have hneR : vr.ownBlock ≠ some T := fun e => by have := (HRq.out.lt T e).1; omega
            have HR2q := Lib.hid (ownsRow_setCell_other (a := ⟨T, x, none⟩) HRq.out hneR (.int .i64 ((List.count x (procL E n (p + 1) ++ K.take k) : Nat) + 1)))
            have HK2q := Lib.hid (ownsRow_setCell_other (a := ⟨T, x, none⟩) HKq.out hneK (.int .i64 ((List.count x (procL E n (p + 1) ++ K.take k) : Nat) + 1)))
            have HB2q := Lib.hid (HBq.out.setCell (p := ⟨T, x, none⟩) (Nat.le_refl T) (.int .i64 ((List.count x (procL E n (p + 1) ++ K.take k) : Nat) + 1)))
            clear hx hxm hneK hneR
            generalize List.count x (procL E n (p + 1) ++ K.take k) = cnt at *
            go_wp2
            go_roundw
            case rel => exact ⟨k + 1, by omega, by go_num, HT2q.out, HR2q.out, HK2q.out, HB2q.out⟩
            case measure => simp [intOf]; omega
          · have hkl : k = K.length := by omega
            have HTe : Hid (wr.ownsRow T 3 1 (.slice (some ⟨T, 0, none⟩) n n) n (trow n (procL E n (p + 1 + 1)))) := Lib.hid (by
              have := HTq.out
              rw [hkl, List.take_length] at this
              rw [show procL E n (p + 1 + 1) = procL E n (p + 1) ++ addL E n (p + 1) from rfl, HKe.out]; exact this)
            clear hkl
            go_wp2
            go_roundw
            case rel => exact ⟨p + 1 + 1, (p : Int) + 1, by omega, congrArg (Value.int .i64) (by omega), by omega, HTe.out, HRq.out, HBq.out⟩
            case measure => simp [intOf]; omega
    · obtain rfl : j = n + 1 := by omega
      have haw := awake_any m wr (by omega) ((HBx.out.cell (p := ⟨0, 0, none⟩) hB1).trans HX.out.2.2.1)
      have HCn : Hid (∀ k, k < n → wr.cell? ⟨T, k, none⟩ = some (.int .i64 1)) := Lib.hid (fun k hk => by
        rw [HTx.out.cellAt k (by omega), trow_get hk, HO.out.all k, if_pos hk]; rfl)
      clear hii
      go_wp2_with fail
      go_loop [9] (fun i => ∃ k : Nat, k ≤ n ∧ i = .int .i64 k) (fun i => n - (intOf i).toNat)
      case atStart => exact ⟨0, Nat.zero_le _, rfl⟩
      case round =>
        obtain ⟨k, hk, rfl⟩ := hrel
        by_cases hkn : k < n
        · have hcc := HCn.out k hkn
          go_wp2
          go_round
          case rel => exact ⟨k + 1, by omega, by go_num⟩
          case measure => simp [intOf]; omega
        · go_wp2_with (go_at_call 11; refine haw.mono ?_; rintro e w5 ⟨rfl, hb5⟩)
          go_ret
          exact ⟨rfl, (HB1.out.trans (HBx.out.mono (by have := HB1.out.size; have := HTe.out; omega))).trans (hb5.mono (by have := HB1.out.size; have := HTe.out; omega))⟩
end Go.Proofs.YtmmohhaolgblkaaDoor

/- Sum, Min, Max over slices of texts. -/
import Derived.Test.YtgehimcngljmnaaGreatDoorCN
import Derived.Deep.LoopGhost
namespace Go.Proofs.YtgehimcngljmnaaGreatDoor
open Go.RowKit Nmx

theorem gcl_any (s : ByteArray) (hs : s.size ≤ 2900) : GcdAt s.data.toList := gcdAt_any (by rw [size_data]; omega)
theorem SS.far {w w' : World} {ao : Option Addr} {g off cap : Nat} {ss : List ByteArray} (h : SS w ao g off cap ss) (hb : Below w.heap.size w w') : SS w' ao g off cap ss :=
  ⟨h.le, h.most, h.ad, fun i hi => (hb.cell (World.block_lt_of_cell? _ _ (h.at_ i hi))).trans (h.at_ i hi)⟩
def qAt (ss : List ByteArray) (i : Nat) : Option Rat := ratF (ss.getD i ⟨#[]⟩).data.toList
def qv (ss : List ByteArray) (i : Nat) : Rat := (qAt ss i).getD 0
def okB (ss : List ByteArray) : Nat → Bool
  | 0 => true
  | k + 1 => okB ss k && (qAt ss k).isSome
def sumN (f : Nat → Rat) : Nat → Rat
  | 0 => 0
  | k + 1 => sumN f k + f k
def bestN (s : Int) (f : Nat → Rat) : Nat → Rat
  | 0 => 0
  | k + 1 => if k = 0 ∨ cmpQ (f k) (bestN s f k) = s then f k else bestN s f k
def preT (ss : List ByteArray) (k : Nat) : ByteArray := if okB ss k = true then TX (sumN (qv ss) k) else ⟨#[]⟩
def extT (s : Int) (ss : List ByteArray) (k : Nat) : ByteArray := if okB ss k = true ∧ k ≠ 0 then TX (bestN s (qv ss) k) else ⟨#[]⟩
theorem okB_le {ss : List ByteArray} {n k : Nat} (h : okB ss n = true) (hk : k ≤ n) : okB ss k = true := by
  induction n with
  | zero => obtain rfl : k = 0 := by omega
            exact h
  | succ n ih =>
    by_cases e : k = n + 1
    · rw [e]; exact h
    · unfold okB at h
      rw [Bool.and_eq_true] at h
      exact ih h.1 (by omega)
theorem okB_no {ss : List ByteArray} {n k : Nat} (hk : k < n) (h : qAt ss k = none) : okB ss n = false := by
  cases hn : okB ss n with
  | false => rfl
  | true =>
    have h1 := okB_le hn (show k + 1 ≤ n by omega)
    unfold okB at h1
    rw [Bool.and_eq_true, h] at h1
    cases h1.2
theorem okB_step {ss : List ByteArray} {k : Nat} {q : Rat} (h : okB ss k = true) (hq : qAt ss k = some q) : okB ss (k + 1) = true := by unfold okB; rw [h, hq]; rfl
theorem qv_of {ss : List ByteArray} {k : Nat} {q : Rat} (hq : qAt ss k = some q) : qv ss k = q := by unfold qv; rw [hq]; rfl
theorem getD_mem {ss : List ByteArray} {k : Nat} (hk : k < ss.length) : ss.getD k ⟨#[]⟩ ∈ ss := by
  rw [List.getD_eq_getElem?_getD, List.getElem?_eq_getElem hk, Option.getD_some]
  exact List.getElem_mem _
theorem ds_qv {ss : List ByteArray} (hs : ∀ s ∈ ss, s.size ≤ 100) {k : Nat} (hk : k < ss.length) : DS 100 (qv ss k) := by
  unfold qv
  cases h : qAt ss k with
  | none => exact DS.zero _
  | some q => exact (ds_of h).mono (by rw [size_data]; exact hs _ (getD_mem hk))
theorem ds_sumN {f : Nat → Rat} {n : Nat} (hf : ∀ k, k < n → DS 100 (f k)) : ∀ k, k ≤ n → DS (101 * k + 1) (sumN f k) := by
  intro k
  induction k with
  | zero => exact fun _ => DS.zero _
  | succ k ih => exact fun hk => ((ih (by omega)).add (hf k (by omega))).mono (by omega)
theorem ds_bestN {s : Int} {f : Nat → Rat} {n : Nat} (hf : ∀ k, k < n → DS 100 (f k)) : ∀ k, k ≤ n → DS 100 (bestN s f k) := by
  intro k
  induction k with
  | zero => exact fun _ => DS.zero _
  | succ k ih =>
    intro hk
    unfold bestN
    split
    · exact hf k (by omega)
    · exact ih (by omega)
theorem preT_step {ss : List ByteArray} (k : Nat) : (⟨(on2 addO (preT ss k).data.toList (ss.getD k ⟨#[]⟩).data.toList).toArray⟩ : ByteArray) = preT ss (k + 1) := by
  unfold preT
  cases h : okB ss k with
  | false =>
    have h2 : okB ss (k + 1) = false := by unfold okB; rw [h]; rfl
    rw [h2, if_neg (by decide), if_neg (by decide), on2_left (show ratF (⟨#[]⟩ : ByteArray).data.toList = none from ratF_nil)]
  | true =>
    rw [if_pos rfl]
    cases hq : qAt ss k with
    | none =>
      have h2 : okB ss (k + 1) = false := by unfold okB; rw [h, hq]; rfl
      rw [h2, if_neg (by decide), on2_right hq]
    | some q =>
      rw [okB_step h hq, if_pos rfl, on2_some (tx_ratF _) hq]
      show _ = TX (sumN (qv ss) k + qv ss k)
      rw [qv_of hq]
      rfl
/-- a number in a block of its own -/
structure RB (w wr : World) (R : Nat) (q : Rat) (x0 x1 x2 x3 x4 x5 : Value) : Prop where
  hr : wr.heap[R]? = some (.cells #[x0, x1, x2, x3, x4, x5] 63 (0, 0))
  rv : RV wr (.agg #[x0, x1, x2, x3, x4, x5]) q
  ge : w.heap.size ≤ R
  bel : Below w.heap.size w wr
theorem RB.far {w wr w1 : World} {R : Nat} {q : Rat} {x0 x1 x2 x3 x4 x5 : Value} (h : RB w wr R q x0 x1 x2 x3 x4 x5) (hb : Below wr.heap.size wr w1) : RB w w1 R q x0 x1 x2 x3 x4 x5 :=
  ⟨(hb.block _ (lt_of_heap h.hr)).trans h.hr, h.rv.far hb, h.ge, h.bel.trans (hb.mono h.bel.size)⟩
theorem RB.cells {w wr : World} {R : Nat} {q : Rat} {x0 x1 x2 x3 x4 x5 : Value} (h : RB w wr R q x0 x1 x2 x3 x4 x5) : wr.cell? ⟨R, 0, none⟩ = some x0 ∧ wr.cell? ⟨R, 1, none⟩ = some x1 ∧ wr.cell? ⟨R, 2, none⟩ = some x2 ∧ wr.cell? ⟨R, 3, none⟩ = some x3 ∧ wr.cell? ⟨R, 4, none⟩ = some x4 ∧ wr.cell? ⟨R, 5, none⟩ = some x5 ∧ (∀ i, wr.frozen? ⟨R, i, none⟩ = false) :=
  ⟨heap_cell h.hr 0, heap_cell h.hr 1, heap_cell h.hr 2, heap_cell h.hr 3, heap_cell h.hr 4, heap_cell h.hr 5, fun i => heap_fz h.hr i⟩
theorem rv_zero (w : World) : RV w (.agg #[.int .i64 0, .bool false, .slice none 0 0, .int .i64 0, .bool false, .slice none 0 0]) 0 :=
  ⟨_, _, _, _, _, _, _, _, _, _, rfl, zeroIV w, by rw [denI_one (show (0 : Rat).den = 1 from rfl)]; exact zeroIV w⟩
theorem RB.start (w : World) : RB w (w.alloc (.cells #[.int .i64 0, .bool false, .slice none 0 0, .int .i64 0, .bool false, .slice none 0 0] 63)) w.heap.size 0 (.int .i64 0) (.bool false) (.slice none 0 0) (.int .i64 0) (.bool false) (.slice none 0 0) :=
  ⟨heap_alloc_new w _, rv_zero _, Nat.le_refl _, (Below.refl _ _).alloc (Nat.le_refl _) _⟩
theorem RV.set6 {w : World} {v : Value} {q : Rat} (h : RV w v q) {R : Nat} {cs : Array Value} (hR : w.heap[R]? = some (.cells cs 63 (0, 0))) (x0 x1 x2 x3 x4 x5 : Value) : RV (set6 w R x0 x1 x2 x3 x4 x5) v q :=
  h.heap_same hR (by decide) fun k hk => set6_other hk ..
theorem RB.put {w wr : World} {R : Nat} {p q : Rat} {x0 x1 x2 x3 x4 x5 y0 y1 y2 y3 y4 y5 : Value} (h : RB w wr R q x0 x1 x2 x3 x4 x5) (hy : RV wr (.agg #[y0, y1, y2, y3, y4, y5]) p) : RB w (set6 wr R y0 y1 y2 y3 y4 y5) R p y0 y1 y2 y3 y4 y5 :=
  ⟨set6_heap h.hr .., RV.set6 hy h.hr .., h.ge, set6_below h.bel h.ge ..⟩
/-- some number in a block -/
def RC (w wr : World) (R : Nat) (q : Rat) : Prop := ∃ s1 b1 a1 n1 c1 s2 b2 a2 n2 c2, RB w wr R q (.int .i64 s1) (.bool b1) (.slice a1 n1 c1) (.int .i64 s2) (.bool b2) (.slice a2 n2 c2)
theorem cmpQ_1 (x y : Rat) : -1 ≤ cmpQ x y ∧ cmpQ x y ≤ 1 := by unfold cmpQ; split <;> (try split) <;> omega

section
set_option maxRecDepth 100000
set_option maxHeartbeats 4000000
theorem refSum_any (ao : Option Addr) (g off cap : Nat) (ss : List ByteArray) (w : World) (h : SS w ao g off cap ss) (hs : ∀ s ∈ ss, s.size ≤ 100) (hn : ss.length ≤ 10) : Calls Tryz.prog 44 #[.slice ao ss.length cap] w fun e w' => e = .returned (.string (preT ss ss.length)) ∧ Below w.heap.size w w' := by
  have hle := h.le
  have hmost := h.most
  have HH := Lib.hid h
  have HS := Lib.hid hs
  have hsz : ∀ k, k ≤ ss.length → (preT ss k).size ≤ 5000 := fun k hk => by
    unfold preT
    split
    · have := DS.sz (ds_sumN (f := qv ss) (fun i hi => ds_qv hs hi) k hk)
      omega
    · exact Nat.zero_le _
  have HZ := Lib.hid hsz
  obtain ⟨n, hnn⟩ : ∃ n, ss.length = n := ⟨_, rfl⟩
  have HN := Lib.hid hnn
  rw [hnn] at hle hn ⊢
  clear h hs hnn hsz
  go_enter Tryz.func44, Tryz.ntmps44
  go_wp2_with fail
  go_loopg [3, 4] n (fun gh sv iv wr => ∃ k : Nat, gh = n - k ∧ k ≤ n ∧ iv = .int .i64 k ∧ sv = .string (preT ss k) ∧ Below w.heap.size w wr)
  case atStart => exact ⟨0, rfl, Nat.zero_le _, rfl, congrArg Value.string (show (⟨#[48]⟩ : ByteArray) = preT ss 0 from tx_int_zero.symm), Below.refl _ _⟩
  case round =>
    obtain ⟨k, rfl, hk, rfl, rfl, hb⟩ := hrel
    have HB := Lib.hid hb
    clear hb
    by_cases hlt : k < n
    · have had := HH.out.ad (by omega)
      subst had
      have hc := (HH.out.far HB.out).at_ k (by rw [HN.out]; exact hlt)
      have hsk : (ss.getD k ⟨#[]⟩).size ≤ 100 := HS.out _ (getD_mem (by rw [HN.out]; exact hlt))
      have hadd := refAdd_any (preT ss k) (ss.getD k ⟨#[]⟩) wr (by have := HZ.out k (by rw [HN.out]; exact hk); omega) (by omega)
      rw [preT_step] at hadd
      obtain ⟨t1, ht1⟩ : ∃ t1, preT ss (k + 1) = t1 := ⟨_, rfl⟩
      rw [ht1] at hadd
      have HT1 := Lib.hid ht1
      clear ht1
      generalize ss.getD k ⟨#[]⟩ = s at *
      generalize preT ss k = t0 at *
      go_wp2_with fail
      refine hadd.mono ?_
      rintro e w1 ⟨rfl, hb⟩
      have HB1 := Lib.hid (HB.out.trans (hb.mono HB.out.size))
      clear hb hadd
      go_wp2
      go_roundg (n - (k + 1))
      case rel => exact ⟨k + 1, rfl, by omega, by go_num, by rw [HT1.out], HB1.out⟩
      case measure => omega
    · obtain rfl : k = n := by omega
      go_wp2
      go_ret
      exact ⟨rfl, HB.out⟩
theorem extT_none (s : Int) (ss : List ByteArray) : extT s ss 0 = ⟨#[]⟩ := by unfold extT; rw [if_neg (fun h => h.2 rfl)]
theorem extT_no {s : Int} {ss : List ByteArray} {n : Nat} (h : okB ss n = false) : extT s ss n = ⟨#[]⟩ := by unfold extT; rw [if_neg (fun hh => by rw [h] at hh; cases hh.1)]
theorem extT_ok {s : Int} {ss : List ByteArray} {n : Nat} (h : okB ss n = true) (h0 : n ≠ 0) : extT s ss n = TX (bestN s (qv ss) n) := by unfold extT; rw [if_pos ⟨h, h0⟩]
theorem preT_ok {ss : List ByteArray} {n : Nat} (h : okB ss n = true) : preT ss n = TX (sumN (qv ss) n) := by unfold preT; rw [if_pos h]
theorem preT_no {ss : List ByteArray} {n : Nat} (h : okB ss n = false) : preT ss n = ⟨#[]⟩ := by unfold preT; rw [h, if_neg (by decide)]
theorem best_new {s : Int} {f : Nat → Rat} {k : Nat} (h : k = 0 ∨ cmpQ (f k) (bestN s f k) = s) : bestN s f (k + 1) = f k := by
  show (if _ then _ else _) = _
  rw [if_pos h]
theorem best_old {s : Int} {f : Nat → Rat} {k : Nat} (h : ¬ (k = 0 ∨ cmpQ (f k) (bestN s f k) = s)) : bestN s f (k + 1) = bestN s f k := by
  show (if _ then _ else _) = _
  rw [if_neg h]
theorem refMin_any (ao : Option Addr) (g off cap : Nat) (ss : List ByteArray) (w : World) (h : SS w ao g off cap ss) (hs : ∀ s ∈ ss, s.size ≤ 100) : Calls Tryz.prog 46 #[.slice ao ss.length cap] w fun e w' => e = .returned (.string (extT (-1) ss ss.length)) ∧ Below w.heap.size w w' := by
  have hle := h.le
  have hmost := h.most
  have HH := Lib.hid h
  have HS := Lib.hid hs
  obtain ⟨n, hnn⟩ : ∃ n, ss.length = n := ⟨_, rfl⟩
  have HN := Lib.hid hnn
  rw [hnn] at hle ⊢
  clear h hs hnn
  go_enter Tryz.func46, Tryz.ntmps46
  go_wp2_with fail
  go_loopg [3, 4] n (fun gh sv iv wr => ∃ k : Nat, gh = n - k ∧ k ≤ n ∧ iv = .int .i64 k ∧ sv = .string (extT (-1) ss k) ∧ okB ss k = true ∧ Below w.heap.size w wr)
  case atStart => exact ⟨0, rfl, Nat.zero_le _, rfl, congrArg Value.string (extT_none _ _).symm, rfl, Below.refl _ _⟩
  case round =>
    obtain ⟨k, rfl, hk, rfl, rfl, hok, hb⟩ := hrel
    have HB := Lib.hid hb
    have HK := Lib.hid hok
    clear hb hok
    by_cases hlt : k < n
    · have had := HH.out.ad (by omega)
      subst had
      have hc := (HH.out.far HB.out).at_ k (by rw [HN.out]; exact hlt)
      have hsk : (ss.getD k ⟨#[]⟩).size ≤ 100 := HS.out _ (getD_mem (by rw [HN.out]; exact hlt))
      have hval := refValid_any (ss.getD k ⟨#[]⟩) wr (by omega)
      obtain ⟨oq, hoq⟩ : ∃ oq, qAt ss k = oq := ⟨_, rfl⟩
      rw [show ratF (ss.getD k ⟨#[]⟩).data.toList = oq from hoq] at hval
      cases oq with
      | none =>
        have HX := Lib.hid (extT_no (s := -1) (okB_no hlt hoq))
        generalize ss.getD k ⟨#[]⟩ = s at *
        clear hoq hsk
        go_wp2_with fail
        refine hval.mono ?_
        rintro e w1 ⟨rfl, hb⟩
        have HB1 := Lib.hid (HB.out.trans (hb.mono HB.out.size))
        clear hb hval
        go_wp2
        go_ret
        exact ⟨ret_str HX.out.symm, HB1.out⟩
      | some q =>
        have HK1 := Lib.hid (okB_step HK.out hoq)
        have HQ := Lib.hid (qv_of hoq)
        have HS1 := Lib.hid (tx_of hoq)
        by_cases h0 : k = 0
        · have HX : Hid (extT (-1) ss (k + 1) = ss.getD k ⟨#[]⟩) := Lib.hid (by rw [extT_ok HK1.out (by omega), best_new (.inl h0), HQ.out, HS1.out])
          have h0b : ((k : Int) == 0) = true := by simp; omega
          subst h0
          rw [Nat.add_zero] at hc
          clear hoq HS1 HQ
          generalize ss.getD 0 ⟨#[]⟩ = s at *
          generalize extT (-1) ss 0 = t0 at *
          go_wp2_with fail
          refine hval.mono ?_
          rintro e w1 ⟨rfl, hb⟩
          have hc1 := (hb.cell (World.block_lt_of_cell? _ _ hc)).trans hc
          have HB1 := Lib.hid (HB.out.trans (hb.mono HB.out.size))
          clear hb hval
          go_wp2
          go_roundg (n - (0 + 1))
          case rel => exact ⟨0 + 1, rfl, by omega, by go_num, by rw [HX.out], HK1.out, HB1.out⟩
          case measure => omega
        · have h0b : ((k : Int) == 0) = false := by simp; omega
          have hcm := fun W => refCmp_any (ss.getD k ⟨#[]⟩) (extT (-1) ss k) W (by omega) (by
            rw [extT_ok HK.out h0]
            have := DS.sz (ds_bestN (s := -1) (f := qv ss) (fun i hi => ds_qv HS.out hi) k (by rw [HN.out]; exact hk))
            omega)
          have hce : cmpO (ss.getD k ⟨#[]⟩).data.toList (extT (-1) ss k).data.toList = cmpQ (qv ss k) (bestN (-1) (qv ss) k) := by
            unfold cmpO
            rw [show ratF (ss.getD k ⟨#[]⟩).data.toList = some q from hoq, extT_ok HK.out h0, tx_ratF, HQ.out]
          rw [hce] at hcm
          obtain ⟨c1, c2⟩ := cmpQ_1 (qv ss k) (bestN (-1) (qv ss) k)
          by_cases hbt : cmpQ (qv ss k) (bestN (-1) (qv ss) k) = -1
          · have HX : Hid (extT (-1) ss (k + 1) = ss.getD k ⟨#[]⟩) := Lib.hid (by rw [extT_ok HK1.out (by omega), best_new (.inr hbt), HQ.out, HS1.out])
            rw [hbt] at hcm
            clear hoq HS1 HQ hce c1 c2 hbt
            generalize ss.getD k ⟨#[]⟩ = s at *
            generalize extT (-1) ss k = t0 at *
            go_wp2_with fail
            refine hval.mono ?_
            rintro e w1 ⟨rfl, hb⟩
            have hc1 := (hb.cell (World.block_lt_of_cell? _ _ hc)).trans hc
            have HB1 := Lib.hid (HB.out.trans (hb.mono HB.out.size))
            clear hb hval hc
            go_wp2_with fail
            refine (hcm _).mono ?_
            rintro e w2 ⟨rfl, hb⟩
            have hc2 := (hb.cell (World.block_lt_of_cell? _ _ hc1)).trans hc1
            have HB2 := Lib.hid (HB1.out.trans (hb.mono HB1.out.size))
            clear hb hcm hc1
            go_wp2
            go_roundg (n - (k + 1))
            case rel => exact ⟨k + 1, rfl, by omega, by go_num, by rw [HX.out], HK1.out, HB2.out⟩
            case measure => omega
          · have HX : Hid (extT (-1) ss (k + 1) = extT (-1) ss k) := Lib.hid (by rw [extT_ok HK1.out (by omega), extT_ok HK.out h0, best_old (fun h => h.elim h0 hbt)])
            have hno : ¬ cmpQ (qv ss k) (bestN (-1) (qv ss) k) < 0 := by omega
            clear hoq HS1 HQ hce c1 c2 hbt
            generalize ss.getD k ⟨#[]⟩ = s at *
            generalize extT (-1) ss k = t0 at *
            generalize cmpQ (qv ss k) (bestN (-1) (qv ss) k) = cv at *
            go_wp2_with fail
            refine hval.mono ?_
            rintro e w1 ⟨rfl, hb⟩
            have hc1 := (hb.cell (World.block_lt_of_cell? _ _ hc)).trans hc
            have HB1 := Lib.hid (HB.out.trans (hb.mono HB.out.size))
            clear hb hval hc
            go_wp2_with fail
            refine (hcm _).mono ?_
            rintro e w2 ⟨rfl, hb⟩
            have HB2 := Lib.hid (HB1.out.trans (hb.mono HB1.out.size))
            clear hb hcm hc1
            go_wp2
            go_roundg (n - (k + 1))
            case rel => exact ⟨k + 1, rfl, by omega, by go_num, by rw [HX.out], HK1.out, HB2.out⟩
            case measure => omega
    · obtain rfl : k = n := by omega
      go_wp2
      go_ret
      exact ⟨rfl, HB.out⟩
theorem refMax_any (ao : Option Addr) (g off cap : Nat) (ss : List ByteArray) (w : World) (h : SS w ao g off cap ss) (hs : ∀ s ∈ ss, s.size ≤ 100) : Calls Tryz.prog 48 #[.slice ao ss.length cap] w fun e w' => e = .returned (.string (extT (1) ss ss.length)) ∧ Below w.heap.size w w' := by
  have hle := h.le
  have hmost := h.most
  have HH := Lib.hid h
  have HS := Lib.hid hs
  obtain ⟨n, hnn⟩ : ∃ n, ss.length = n := ⟨_, rfl⟩
  have HN := Lib.hid hnn
  rw [hnn] at hle ⊢
  clear h hs hnn
  go_enter Tryz.func48, Tryz.ntmps48
  go_wp2_with fail
  go_loopg [3, 4] n (fun gh sv iv wr => ∃ k : Nat, gh = n - k ∧ k ≤ n ∧ iv = .int .i64 k ∧ sv = .string (extT (1) ss k) ∧ okB ss k = true ∧ Below w.heap.size w wr)
  case atStart => exact ⟨0, rfl, Nat.zero_le _, rfl, congrArg Value.string (extT_none _ _).symm, rfl, Below.refl _ _⟩
  case round =>
    obtain ⟨k, rfl, hk, rfl, rfl, hok, hb⟩ := hrel
    have HB := Lib.hid hb
    have HK := Lib.hid hok
    clear hb hok
    by_cases hlt : k < n
    · have had := HH.out.ad (by omega)
      subst had
      have hc := (HH.out.far HB.out).at_ k (by rw [HN.out]; exact hlt)
      have hsk : (ss.getD k ⟨#[]⟩).size ≤ 100 := HS.out _ (getD_mem (by rw [HN.out]; exact hlt))
      have hval := refValid_any (ss.getD k ⟨#[]⟩) wr (by omega)
      obtain ⟨oq, hoq⟩ : ∃ oq, qAt ss k = oq := ⟨_, rfl⟩
      rw [show ratF (ss.getD k ⟨#[]⟩).data.toList = oq from hoq] at hval
      cases oq with
      | none =>
        have HX := Lib.hid (extT_no (s := 1) (okB_no hlt hoq))
        generalize ss.getD k ⟨#[]⟩ = s at *
        clear hoq hsk
        go_wp2_with fail
        refine hval.mono ?_
        rintro e w1 ⟨rfl, hb⟩
        have HB1 := Lib.hid (HB.out.trans (hb.mono HB.out.size))
        clear hb hval
        go_wp2
        go_ret
        exact ⟨ret_str HX.out.symm, HB1.out⟩
      | some q =>
        have HK1 := Lib.hid (okB_step HK.out hoq)
        have HQ := Lib.hid (qv_of hoq)
        have HS1 := Lib.hid (tx_of hoq)
        by_cases h0 : k = 0
        · have HX : Hid (extT (1) ss (k + 1) = ss.getD k ⟨#[]⟩) := Lib.hid (by rw [extT_ok HK1.out (by omega), best_new (.inl h0), HQ.out, HS1.out])
          have h0b : ((k : Int) == 0) = true := by simp; omega
          subst h0
          rw [Nat.add_zero] at hc
          clear hoq HS1 HQ
          generalize ss.getD 0 ⟨#[]⟩ = s at *
          generalize extT (1) ss 0 = t0 at *
          go_wp2_with fail
          refine hval.mono ?_
          rintro e w1 ⟨rfl, hb⟩
          have hc1 := (hb.cell (World.block_lt_of_cell? _ _ hc)).trans hc
          have HB1 := Lib.hid (HB.out.trans (hb.mono HB.out.size))
          clear hb hval
          go_wp2
          go_roundg (n - (0 + 1))
          case rel => exact ⟨0 + 1, rfl, by omega, by go_num, by rw [HX.out], HK1.out, HB1.out⟩
          case measure => omega
        · have h0b : ((k : Int) == 0) = false := by simp; omega
          have hcm := fun W => refCmp_any (ss.getD k ⟨#[]⟩) (extT (1) ss k) W (by omega) (by
            rw [extT_ok HK.out h0]
            have := DS.sz (ds_bestN (s := 1) (f := qv ss) (fun i hi => ds_qv HS.out hi) k (by rw [HN.out]; exact hk))
            omega)
          have hce : cmpO (ss.getD k ⟨#[]⟩).data.toList (extT (1) ss k).data.toList = cmpQ (qv ss k) (bestN (1) (qv ss) k) := by
            unfold cmpO
            rw [show ratF (ss.getD k ⟨#[]⟩).data.toList = some q from hoq, extT_ok HK.out h0, tx_ratF, HQ.out]
          rw [hce] at hcm
          obtain ⟨c1, c2⟩ := cmpQ_1 (qv ss k) (bestN (1) (qv ss) k)
          by_cases hbt : cmpQ (qv ss k) (bestN (1) (qv ss) k) = 1
          · have HX : Hid (extT (1) ss (k + 1) = ss.getD k ⟨#[]⟩) := Lib.hid (by rw [extT_ok HK1.out (by omega), best_new (.inr hbt), HQ.out, HS1.out])
            rw [hbt] at hcm
            clear hoq HS1 HQ hce c1 c2 hbt
            generalize ss.getD k ⟨#[]⟩ = s at *
            generalize extT (1) ss k = t0 at *
            go_wp2_with fail
            refine hval.mono ?_
            rintro e w1 ⟨rfl, hb⟩
            have hc1 := (hb.cell (World.block_lt_of_cell? _ _ hc)).trans hc
            have HB1 := Lib.hid (HB.out.trans (hb.mono HB.out.size))
            clear hb hval hc
            go_wp2_with fail
            refine (hcm _).mono ?_
            rintro e w2 ⟨rfl, hb⟩
            have hc2 := (hb.cell (World.block_lt_of_cell? _ _ hc1)).trans hc1
            have HB2 := Lib.hid (HB1.out.trans (hb.mono HB1.out.size))
            clear hb hcm hc1
            go_wp2
            go_roundg (n - (k + 1))
            case rel => exact ⟨k + 1, rfl, by omega, by go_num, by rw [HX.out], HK1.out, HB2.out⟩
            case measure => omega
          · have HX : Hid (extT (1) ss (k + 1) = extT (1) ss k) := Lib.hid (by rw [extT_ok HK1.out (by omega), extT_ok HK.out h0, best_old (fun h => h.elim h0 hbt)])
            have hno : ¬ cmpQ (qv ss k) (bestN (1) (qv ss) k) > 0 := by omega
            clear hoq HS1 HQ hce c1 c2 hbt
            generalize ss.getD k ⟨#[]⟩ = s at *
            generalize extT (1) ss k = t0 at *
            generalize cmpQ (qv ss k) (bestN (1) (qv ss) k) = cv at *
            go_wp2_with fail
            refine hval.mono ?_
            rintro e w1 ⟨rfl, hb⟩
            have hc1 := (hb.cell (World.block_lt_of_cell? _ _ hc)).trans hc
            have HB1 := Lib.hid (HB.out.trans (hb.mono HB.out.size))
            clear hb hval hc
            go_wp2_with fail
            refine (hcm _).mono ?_
            rintro e w2 ⟨rfl, hb⟩
            have HB2 := Lib.hid (HB1.out.trans (hb.mono HB1.out.size))
            clear hb hcm hc1
            go_wp2
            go_roundg (n - (k + 1))
            case rel => exact ⟨k + 1, rfl, by omega, by go_num, by rw [HX.out], HK1.out, HB2.out⟩
            case measure => omega
    · obtain rfl : k = n := by omega
      go_wp2
      go_ret
      exact ⟨rfl, HB.out⟩
theorem numSum_any (ao : Option Addr) (g off cap : Nat) (ss : List ByteArray) (w : World) (h : SS w ao g off cap ss) (hs : ∀ s ∈ ss, s.size ≤ 100) (hn : ss.length ≤ 10) (hE : Env w) : Calls Tryz.prog 43 #[.slice ao ss.length cap] w fun e w' => e = .returned (.string (preT ss ss.length)) ∧ Below w.heap.size w w' := by
  have hle := h.le
  have hmost := h.most
  have HH := Lib.hid h
  have HS := Lib.hid hs
  have HE := Lib.hid hE
  have HD : Hid (∀ k, k ≤ ss.length → DS 2000 (sumN (qv ss) k)) := Lib.hid (fun k hk => (ds_sumN (f := qv ss) (fun i hi => ds_qv hs hi) k hk).mono (by omega))
  obtain ⟨n, hnn⟩ : ∃ n, ss.length = n := ⟨_, rfl⟩
  have HN := Lib.hid hnn
  rw [hnn] at hle hn ⊢
  clear h hs hnn hE
  go_enter Tryz.func43, Tryz.ntmps43
  go_wp2_with fail
  go_loopg [10] n (fun gh iv wr => ∃ k : Nat, gh = n - k ∧ k ≤ n ∧ iv = .int .i64 k ∧ okB ss k = true ∧ RC w wr w.heap.size (sumN (qv ss) k))
  case atStart => exact ⟨0, rfl, Nat.zero_le _, rfl, rfl, _, _, _, _, _, _, _, _, _, _, RB.start w⟩
  case round =>
    obtain ⟨k, rfl, hk, rfl, hok, s1, b1, a1, n1, c1, s2, b2, a2, n2, c2, hR⟩ := hrel
    have HR := Lib.hid hR
    have HK := Lib.hid hok
    obtain ⟨k0, k1, k2, k3, k4, k5, fz⟩ := hR.cells
    clear hR hok
    by_cases hlt : k < n
    · have had := HH.out.ad (by omega)
      subst had
      have hc := (HH.out.far HR.out.bel).at_ k (by rw [HN.out]; exact hlt)
      have hsk : (ss.getD k ⟨#[]⟩).size ≤ 100 := HS.out _ (getD_mem (by rw [HN.out]; exact hlt))
      have hpa := parse_env (ss.getD k ⟨#[]⟩) wr (by omega) (HE.out.far HR.out.bel) (gcl_any _ (by omega))
      unfold ParsePost at hpa
      obtain ⟨oq, hoq⟩ : ∃ oq, qAt ss k = oq := ⟨_, rfl⟩
      rw [show ratF (ss.getD k ⟨#[]⟩).data.toList = oq from hoq] at hpa
      cases oq with
      | none =>
        have HX := Lib.hid (preT_no (okB_no hlt hoq))
        generalize ss.getD k ⟨#[]⟩ = s at *
        clear hoq hsk
        go_wp2_with fail
        refine hpa.mono ?_
        rintro e w1 ⟨v, rfl, hv, hb⟩
        obtain ⟨s3, b3, a3, n3, c3, s4, b4, a4, n4, c4, rfl, -, -⟩ := rv_form hv
        have HB1 := Lib.hid (HR.out.bel.trans (hb.mono HR.out.bel.size))
        have HB2 := Lib.hid (HB1.out.alloc HB1.out.size (.cells #[.int .i64 s3, .bool b3, .slice a3 n3 c3, .int .i64 s4, .bool b4, .slice a4 n4 c4] 63))
        clear hb hv hpa
        go_wp2
        go_ret
        exact ⟨ret_str HX.out.symm, HB2.out⟩
      | some q =>
        have HK1 := Lib.hid (okB_step HK.out hoq)
        have HQ := Lib.hid (qv_of hoq)
        have HDQ : Hid (DS 100 q) := Lib.hid ((ds_of hoq).mono (by rw [size_data]; exact hsk))
        have HDS := Lib.hid (HD.out k (by rw [HN.out]; exact hk))
        generalize ss.getD k ⟨#[]⟩ = s at *
        clear hoq hsk
        go_wp2_with fail
        refine hpa.mono ?_
        rintro e w1 ⟨v, rfl, hv, hb⟩
        have hv' : RV w1 v q := hv
        obtain ⟨s3, b3, a3, n3, c3, s4, b4, a4, n4, c4, rfl, -, -⟩ := rv_form hv
        have hal : Below w1.heap.size w1 (w1.alloc (.cells #[.int .i64 s3, .bool b3, .slice a3 n3 c3, .int .i64 s4, .bool b4, .slice a4 n4 c4] 63)) := (Below.refl _ _).alloc (Nat.le_refl _) _
        have HR1 := Lib.hid ((HR.out.far hb).far hal)
        have HV1 := Lib.hid (hv'.far hal)
        have hadd := ratAdd_ok _ _ _ _ _ HR1.out.rv HV1.out (ds_rs (k := 300) HDS.out (by omega)) (ds_rs (k := 12) HDQ.out (by omega)) (by omega)
        clear hb hv hv' hpa hal k0 k1 k2 k3 k4 k5 fz HR
        obtain ⟨k0, k1, k2, k3, k4, k5, fz⟩ := HR1.out.cells
        go_wp2_with fail
        refine hadd.mono ?_
        rintro e w2 ⟨v, rfl, hv, hb⟩
        have HR2 := Lib.hid (HR1.out.far hb)
        have HV2 := Lib.hid hv
        obtain ⟨s5, b5, a5, n5, c5, s6, b6, a6, n6, c6, rfl, -, -⟩ := rv_form hv
        clear hb hv hadd k0 k1 k2 k3 k4 k5 fz HR1
        obtain ⟨k0, k1, k2, k3, k4, k5, fz⟩ := HR2.out.cells
        have HR3 := Lib.hid (HR2.out.put HV2.out)
        go_wp2
        go_roundg (n - (k + 1))
        case rel => exact ⟨k + 1, rfl, by omega, by go_num, HK1.out, s5, b5, a5, n5, c5, s6, b6, a6, n6, c6, by show RB _ (set6 _ _ _ _ _ _ _ _) _ (sumN (qv ss) k + qv ss k) _ _ _ _ _ _; rw [HQ.out]; exact HR3.out⟩
        case measure => omega
    · obtain rfl : k = n := by omega
      have hst := ratString_any _ _ wr HR.out.rv (HE.out.far HR.out.bel) (by have := Nmx.DS.parts (HD.out k (by rw [HN.out]; exact hk)); omega)
      have HX : Hid (preT ss k = ⟨(textQ (sumN (qv ss) k)).toArray⟩) := Lib.hid (preT_ok HK.out)
      go_wp2_with fail
      refine hst.mono ?_
      rintro e w1 ⟨rfl, hb⟩
      have HB1 := Lib.hid (HR.out.bel.trans (hb.mono HR.out.bel.size))
      clear hb hst
      go_wp2
      go_ret
      exact ⟨ret_str HX.out.symm, HB1.out⟩
theorem numExt_any (sd : Int) (ao : Option Addr) (g off cap : Nat) (ss : List ByteArray) (w : World) (h : SS w ao g off cap ss) (hs : ∀ s ∈ ss, s.size ≤ 100) (hE : Env w) : Calls Tryz.prog 105 #[.slice ao ss.length cap, .int .i64 sd] w fun e w' => e = .returned (.string (extT sd ss ss.length)) ∧ Below w.heap.size w w' := by
  have hle := h.le
  have hmost := h.most
  have HH := Lib.hid h
  have HS := Lib.hid hs
  have HE := Lib.hid hE
  have HD : Hid (∀ k, k ≤ ss.length → DS 100 (bestN sd (qv ss) k)) := Lib.hid (fun k hk => ds_bestN (f := qv ss) (fun i hi => ds_qv hs hi) k hk)
  obtain ⟨n, hnn⟩ : ∃ n, ss.length = n := ⟨_, rfl⟩
  have HN := Lib.hid hnn
  rw [hnn] at hle ⊢
  clear h hs hnn hE
  go_enter Tryz.func105, Tryz.ntmps105
  go_wp2_with fail
  go_loopg [12] n (fun gh iv wr => ∃ k : Nat, gh = n - k ∧ k ≤ n ∧ iv = .int .i64 k ∧ okB ss k = true ∧ RC w wr w.heap.size (bestN sd (qv ss) k))
  case atStart => exact ⟨0, rfl, Nat.zero_le _, rfl, rfl, _, _, _, _, _, _, _, _, _, _, RB.start w⟩
  case round =>
    obtain ⟨k, rfl, hk, rfl, hok, s1, b1, a1, n1, c1, s2, b2, a2, n2, c2, hR⟩ := hrel
    have HR := Lib.hid hR
    have HK := Lib.hid hok
    obtain ⟨k0, k1, k2, k3, k4, k5, fz⟩ := hR.cells
    clear hR hok
    by_cases hlt : k < n
    · have had := HH.out.ad (by omega)
      subst had
      have hc := (HH.out.far HR.out.bel).at_ k (by rw [HN.out]; exact hlt)
      have hsk : (ss.getD k ⟨#[]⟩).size ≤ 100 := HS.out _ (getD_mem (by rw [HN.out]; exact hlt))
      have hpa := parse_env (ss.getD k ⟨#[]⟩) wr (by omega) (HE.out.far HR.out.bel) (gcl_any _ (by omega))
      unfold ParsePost at hpa
      obtain ⟨oq, hoq⟩ : ∃ oq, qAt ss k = oq := ⟨_, rfl⟩
      rw [show ratF (ss.getD k ⟨#[]⟩).data.toList = oq from hoq] at hpa
      cases oq with
      | none =>
        have HX := Lib.hid (extT_no (s := sd) (okB_no hlt hoq))
        generalize ss.getD k ⟨#[]⟩ = s at *
        clear hoq hsk
        go_wp2_with fail
        refine hpa.mono ?_
        rintro e w1 ⟨v, rfl, hv, hb⟩
        obtain ⟨s3, b3, a3, n3, c3, s4, b4, a4, n4, c4, rfl, -, -⟩ := rv_form hv
        have HB1 := Lib.hid (HR.out.bel.trans (hb.mono HR.out.bel.size))
        have HB2 := Lib.hid (HB1.out.alloc HB1.out.size (.cells #[.int .i64 s3, .bool b3, .slice a3 n3 c3, .int .i64 s4, .bool b4, .slice a4 n4 c4] 63))
        clear hb hv hpa
        go_wp2
        go_ret
        exact ⟨ret_str HX.out.symm, HB2.out⟩
      | some q =>
        have HK1 := Lib.hid (okB_step HK.out hoq)
        have HQ := Lib.hid (qv_of hoq)
        have HDQ : Hid (DS 100 q) := Lib.hid ((ds_of hoq).mono (by rw [size_data]; exact hsk))
        have HDS := Lib.hid (HD.out k (by rw [HN.out]; exact hk))
        generalize ss.getD k ⟨#[]⟩ = s at *
        clear hoq hsk
        go_wp2_with fail
        refine hpa.mono ?_
        rintro e w1 ⟨v, rfl, hv, hb⟩
        have hv' : RV w1 v q := hv
        obtain ⟨s3, b3, a3, n3, c3, s4, b4, a4, n4, c4, rfl, -, -⟩ := rv_form hv
        have hal : Below w1.heap.size w1 (w1.alloc (.cells #[.int .i64 s3, .bool b3, .slice a3 n3 c3, .int .i64 s4, .bool b4, .slice a4 n4 c4] 63)) := (Below.refl _ _).alloc (Nat.le_refl _) _
        have HR1 := Lib.hid ((HR.out.far hb).far hal)
        have HV1 := Lib.hid (hv'.far hal)
        have HJ1 : Hid ((w1.alloc (.cells #[.int .i64 s3, .bool b3, .slice a3 n3 c3, .int .i64 s4, .bool b4, .slice a4 n4 c4] 63)).heap[w1.heap.size]? = some (.cells #[.int .i64 s3, .bool b3, .slice a3 n3 c3, .int .i64 s4, .bool b4, .slice a4 n4 c4] 63 (0, 0))) := Lib.hid (heap_alloc_new w1 _)
        have hcm := ratCmp_any _ _ _ _ _ HV1.out HR1.out.rv (ds_rs (k := 12) HDQ.out (by omega)) (ds_rs (k := 12) HDS.out (by omega)) (by omega) (by omega)
        clear hb hv hv' hpa hal k0 k1 k2 k3 k4 k5 fz HR
        obtain ⟨k0, k1, k2, k3, k4, k5, fz⟩ := HR1.out.cells
        by_cases h0 : k = 0
        · have HX : Hid (bestN sd (qv ss) (k + 1) = q) := Lib.hid (by rw [best_new (.inl h0), HQ.out])
          have h0b : ((k : Int) == 0) = true := by simp; omega
          clear hcm
          have HR3 := Lib.hid (HR1.out.put HV1.out)
          subst h0
          go_wp2
          go_roundg (n - (0 + 1))
          case rel => exact ⟨0 + 1, rfl, by omega, by go_num, HK1.out, s3, b3, a3, n3, c3, s4, b4, a4, n4, c4, by rw [HX.out]; exact HR3.out⟩
          case measure => omega
        · have h0b : ((k : Int) == 0) = false := by simp; omega
          by_cases hbt : cmpQ q (bestN sd (qv ss) k) = sd
          · have HX : Hid (bestN sd (qv ss) (k + 1) = q) := Lib.hid (by rw [best_new (.inr (by rw [HQ.out]; exact hbt)), HQ.out])
            have hbb : (cmpQ q (bestN sd (qv ss) k) == sd) = true := by rw [beq_iff_eq]; exact hbt
            generalize cmpQ q (bestN sd (qv ss) k) = cv at *
            clear hbt
            go_wp2_with fail
            refine hcm.mono ?_
            rintro e w2 ⟨rfl, hb⟩
            have HR2 := Lib.hid (HR1.out.far hb)
            have HV2 := Lib.hid (HV1.out.far hb)
            have HJ2 := Lib.hid ((hb.block _ (lt_of_heap HJ1.out)).trans HJ1.out)
            have j0 := heap_cell HJ2.out 0
            have j1 := heap_cell HJ2.out 1
            have j2 := heap_cell HJ2.out 2
            have j3 := heap_cell HJ2.out 3
            have j4 := heap_cell HJ2.out 4
            have j5 := heap_cell HJ2.out 5
            clear hb hcm k0 k1 k2 k3 k4 k5 fz HR1
            obtain ⟨k0, k1, k2, k3, k4, k5, fz⟩ := HR2.out.cells
            have HR3 := Lib.hid (HR2.out.put HV2.out)
            go_wp2
            go_roundg (n - (k + 1))
            case rel => exact ⟨k + 1, rfl, by omega, by go_num, HK1.out, s3, b3, a3, n3, c3, s4, b4, a4, n4, c4, by rw [HX.out]; exact HR3.out⟩
            case measure => omega
          · have HX : Hid (bestN sd (qv ss) (k + 1) = bestN sd (qv ss) k) := Lib.hid (by rw [best_old (fun h => h.elim h0 (by rw [HQ.out]; exact hbt))])
            have hbb : (cmpQ q (bestN sd (qv ss) k) == sd) = false := by rw [beq_eq_false_iff_ne]; exact hbt
            generalize cmpQ q (bestN sd (qv ss) k) = cv at *
            clear hbt
            go_wp2_with fail
            refine hcm.mono ?_
            rintro e w2 ⟨rfl, hb⟩
            have HR2 := Lib.hid (HR1.out.far hb)
            clear hb hcm k0 k1 k2 k3 k4 k5 fz HR1
            go_wp2
            go_roundg (n - (k + 1))
            case rel => exact ⟨k + 1, rfl, by omega, by go_num, HK1.out, s1, b1, a1, n1, c1, s2, b2, a2, n2, c2, by rw [HX.out]; exact HR2.out⟩
            case measure => omega
    · obtain rfl : k = n := by omega
      by_cases h0 : k = 0
      · subst h0
        have HX := Lib.hid (extT_none sd ss)
        go_wp2
        go_ret
        exact ⟨ret_str HX.out.symm, HR.out.bel⟩
      · have h0b : ((k : Int) == 0) = false := by simp; omega
        have hst := ratString_any _ _ wr HR.out.rv (HE.out.far HR.out.bel) (by have := Nmx.DS.parts (HD.out k (by rw [HN.out]; exact hk)); omega)
        have HX : Hid (extT sd ss k = ⟨(textQ (bestN sd (qv ss) k)).toArray⟩) := Lib.hid (extT_ok HK.out h0)
        go_wp2_with fail
        refine hst.mono ?_
        rintro e w1 ⟨rfl, hb⟩
        have HB1 := Lib.hid (HR.out.bel.trans (hb.mono HR.out.bel.size))
        clear hb hst
        go_wp2
        go_ret
        exact ⟨ret_str HX.out.symm, HB1.out⟩
theorem numMin_any (ao : Option Addr) (g off cap : Nat) (ss : List ByteArray) (w : World) (h : SS w ao g off cap ss) (hs : ∀ s ∈ ss, s.size ≤ 100) (hE : Env w) : Calls Tryz.prog 45 #[.slice ao ss.length cap] w fun e w' => e = .returned (.string (extT (-1) ss ss.length)) ∧ Below w.heap.size w w' := by
  have hx := numExt_any (-1) ao g off cap ss w h hs hE
  generalize ss.length = n at *
  clear h hs hE
  go_enter Tryz.func45, Tryz.ntmps45
  go_wp2_with fail
  refine hx.mono ?_
  rintro e w1 ⟨rfl, hb⟩
  have HB := Lib.hid hb
  clear hb hx
  go_wp2
  go_ret
  exact ⟨rfl, HB.out⟩
theorem numMax_any (ao : Option Addr) (g off cap : Nat) (ss : List ByteArray) (w : World) (h : SS w ao g off cap ss) (hs : ∀ s ∈ ss, s.size ≤ 100) (hE : Env w) : Calls Tryz.prog 47 #[.slice ao ss.length cap] w fun e w' => e = .returned (.string (extT (1) ss ss.length)) ∧ Below w.heap.size w w' := by
  have hx := numExt_any (1) ao g off cap ss w h hs hE
  generalize ss.length = n at *
  clear h hs hE
  go_enter Tryz.func47, Tryz.ntmps47
  go_wp2_with fail
  refine hx.mono ?_
  rintro e w1 ⟨rfl, hb⟩
  have HB := Lib.hid hb
  clear hb hx
  go_wp2
  go_ret
  exact ⟨rfl, HB.out⟩
end
end Go.Proofs.YtgehimcngljmnaaGreatDoor

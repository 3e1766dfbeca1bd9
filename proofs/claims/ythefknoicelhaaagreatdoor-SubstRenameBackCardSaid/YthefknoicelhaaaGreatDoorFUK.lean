/- check. -/
import Derived.Test.YthefknoicelhaaaGreatDoorFUJ
import Derived.Test.YthefknoicelhaaaGreatDoorFLS
import Derived.Laws.ResultCell
namespace Go.Proofs.YthefknoicelhaaaGreatDoor.Se
open Go.RowKit Nmx

def ndZ : Nd := ⟨0, 0, ⟨#[]⟩, ⟨#[]⟩, 0⟩
/-- the sorts of the nodes below index j, given those from j on -/
def srt (ts : List Nd) (E : List Nat) : Nat → List Int → Option (List Int)
  | 0, S => some S
  | j + 1, S =>
    if fpF (ts.getD j ndZ) && !((ts.getD j ndZ).op == 15 && !((ts.getD (j + 1) ndZ).op == 3)) then
      (if (rsF (ts.getD j ndZ).op (ts.getD j ndZ).sort (kidsS E S j)).2 then srt ts E j (S.set j (rsF (ts.getD j ndZ).op (ts.getD j ndZ).sort (kidsS E S j)).1) else none)
    else none
/-- the ends and the sorts of a term, but for its names -/
def shp (ts : List Nd) : Option (List Nat × List Int) :=
  if ts = [] ∨ 20000 < ts.length then none else
  match endsF ts.length (ts.map Nd.kids) with
  | none => none
  | some E => if E.getD 0 0 = ts.length ∧ heightF 0 E [] 0 ≤ 257 then (srt ts E ts.length (List.replicate ts.length 0)).map fun S => (E, S) else none
def ChkPost (na : List Nat → List Int → Bool) (ts : List Nd) (w : World) (e : Ending) (w' : World) : Prop :=
  Below w.heap.size w w' ∧ ∃ (a1 a2 : Option Addr) (n1 c1 n2 c2 : Nat) (b : Bool), e = .returned (.tuple #[.agg #[.slice a1 n1 c1, .slice a2 n2 c2], .bool b]) ∧ match shp ts with
    | none => b = false
    | some (E, S) => b = na E S ∧ ∃ ge gs : Nat, a1 = some ⟨ge, 0, none⟩ ∧ n1 = ts.length ∧ a2 = some ⟨gs, 0, none⟩ ∧ n2 = ts.length ∧ ge < w'.heap.size ∧ gs < w'.heap.size ∧ w.heap.size ≤ ge ∧ w.heap.size ≤ gs ∧
        (∀ t, t < ts.length → w'.cell? ⟨ge, t, none⟩ = some (.int .i64 (E.getD t 0 : Nat))) ∧ (∀ t, t < ts.length → w'.cell? ⟨gs, t, none⟩ = some (.int .i64 (S.getD t 0)))
theorem ChkPost.none_of {na : List Nat → List Int → Bool} {ts : List Nd} {w w' : World} {a1 a2 : Option Addr} {n1 c1 n2 c2 : Nat} (hb : Below w.heap.size w w') (h : shp ts = none) : ChkPost na ts w (.returned (.tuple #[.agg #[.slice a1 n1 c1, .slice a2 n2 c2], .bool false])) w' := by
  refine ⟨hb, a1, a2, n1, c1, n2, c2, false, rfl, ?_⟩
  rw [h]
/-- what every world of a round keeps: the sorts so far, the shape, the result's box -/
structure RW (M X S g2 c2 n : Nat) (w3 : World) (Ss : List Int) (W : World) : Prop where
  row : W.ownsRow M 3 1 (.slice (some ⟨M, 0, none⟩) n n) n (intsI Ss)
  bx : W.heap[X]? = some (.cells #[.slice (some ⟨g2, 0, none⟩) n c2, .slice (some ⟨M, 0, none⟩) n n] 87 (0, 0))
  bs : W.heap[S]? = some (.cells #[.slice none 0 0, .slice none 0 0] 87 (0, 0))
  bel : Below M w3 W
theorem RW.far {M X S g2 c2 n : Nat} {w3 : World} {Ss : List Int} {W W' : World} (h : RW M X S g2 c2 n w3 Ss W) (hb : Below W.heap.size W W') : RW M X S g2 c2 n w3 Ss W' :=
  ⟨ownsRow_below h.row hb (fun g hg => (h.row.lt g hg).2), (hb.block _ (lt_of_heap h.bx)).trans h.bx, (hb.block _ (lt_of_heap h.bs)).trans h.bs, h.bel.trans (hb.mono (Nat.le_of_lt (h.row.lt M rfl).2))⟩
theorem RW.drew {M X S g2 c2 n : Nat} {w3 : World} {Ss : List Int} {W : World} (h : RW M X S g2 c2 n w3 Ss W) : RW M X S g2 c2 n w3 Ss W.drew := h.far (below_draws (Below.refl _ _) 1)
theorem RW.set {M X S g2 c2 n : Nat} {w3 : World} {Ss : List Int} {W : World} (h : RW M X S g2 c2 n w3 Ss W) (hX : M < X) (hS : S < M) {j : Nat} (r : Int) : RW M X S g2 c2 n w3 (Ss.set j r) (W.setCell ⟨M, j, none⟩ (.int .i64 r)) := by
  refine ⟨?_, (Below.heap_setCell _ _ _ _ (by show X ≠ M; omega)).trans h.bx, (Below.heap_setCell _ _ _ _ (by show S ≠ M; omega)).trans h.bs, h.bel.setCell (show M ≤ M from Nat.le_refl _) _⟩
  have := (h.row.stored j (.int .i64 r)).1
  have e : intsI (Ss.set j r) = (intsI Ss).set j (.int .i64 r) := by unfold intsI; rw [List.map_set]
  rw [e]; exact this
theorem trailF_len (E : List Nat) (u : Nat) : ∀ (f i : Nat), (trailF f E i u).length ≤ f := by
  intro f
  induction f with
  | zero => intro i; simp [trailF]
  | succ f ih =>
    intro i
    simp only [trailF]
    split
    · simp only [List.length_cons]; have := ih (E.getD i 0); omega
    · simp
theorem trail_len (E : List Nat) (i u : Nat) : (trail E i u).length ≤ u - i := trailF_len E u _ i
/-- what the last step leaves -/
structure RZ (M S g2 c2 n : Nat) (w : World) (E : List Nat) (Ss : List Int) (W : World) : Prop where
  bs : W.heap[S]? = some (.cells #[.slice (some ⟨g2, 0, none⟩) n c2, .slice (some ⟨M, 0, none⟩) n n] 87 (0, 0))
  e : ∀ t, t < n → W.cell? ⟨g2, t, none⟩ = some (.int .i64 (E.getD t 0 : Nat))
  s : ∀ t, t < n → W.cell? ⟨M, t, none⟩ = some (.int .i64 (Ss.getD t 0))
  l1 : g2 < W.heap.size
  l2 : M < W.heap.size
  l3 : S ≤ W.heap.size
  bel : Below S w W
theorem RZ.far {M S g2 c2 n : Nat} {w : World} {E : List Nat} {Ss : List Int} {W W' : World} (h : RZ M S g2 c2 n w E Ss W) (hb : Below W.heap.size W W') : RZ M S g2 c2 n w E Ss W' :=
  ⟨(hb.block _ (lt_of_heap h.bs)).trans h.bs, fun t ht => (hb.cell (p := ⟨g2, t, none⟩) h.l1).trans (h.e t ht), fun t ht => (hb.cell (p := ⟨M, t, none⟩) h.l2).trans (h.s t ht), Nat.lt_of_lt_of_le h.l1 hb.size, Nat.lt_of_lt_of_le h.l2 hb.size, Nat.le_trans h.l3 hb.size, h.bel.trans (hb.mono h.l3)⟩
theorem RW.get {M X S g2 c2 n : Nat} {w3 : World} {Ss : List Int} {W : World} (h : RW M X S g2 c2 n w3 Ss W) (hl : Ss.length = n) {t : Nat} (ht : t < n) : W.cell? ⟨M, t, none⟩ = some (.int .i64 (Ss.getD t 0)) :=
  (h.row.cellAt t (by omega)).trans (by unfold intsI; rw [List.getElem?_map, List.getD_eq_getElem?_getD, List.getElem?_eq_getElem (by omega)]; rfl)
theorem fp_facts {x : Nd} (h : fpF x = true) : (1 ≤ x.op ∧ x.op ≤ 20) ∧ (arF x.op).1 ≤ x.kids := by
  unfold fpF at h
  simp only [Bool.and_eq_true, decide_eq_true_eq] at h
  exact ⟨⟨h.1, h.2.1⟩, h.2.2.1⟩
theorem rowI_at {w : World} {b : Nat} {v : Value} {l : List Int} (h : w.ownsRow b 3 1 v l.length (intsI l)) (h0 : 0 < w.heap.size) (_ : l.length ≤ 1000000) : ∃ ao g cap, v = .slice ao l.length cap ∧ (l.length ≠ 0 → ao = some ⟨g, 0, none⟩) ∧ g < w.heap.size ∧ ∀ t (h : t < l.length), w.cell? ⟨g, t, none⟩ = some (.int .i64 l[t]) := by
  have h' := h
  obtain ⟨_, h1 | ⟨g, cap, cur, hv, _⟩⟩ := h'
  · exact ⟨none, 0, 0, by rw [h1.1, h1.2], fun h => absurd h1.2 h, h0, fun t ht => by omega⟩
  · refine ⟨_, g, cap, hv, fun _ => rfl, (h.lt g (by rw [hv]; rfl)).2, fun t ht => ?_⟩
    rw [hv] at h
    rw [h.cellAt t (by omega)]; simp [intsI, ht]
section
set_option maxHeartbeats 4000000
set_option maxRecDepth 100000
theorem chk_any (na : List Nat → List Int → Bool) (ao : Option Addr) (g cap : Nat) (ts : List Nd) (w : World) (hao : ts.length ≠ 0 → ao = some ⟨g, 0, none⟩) (hg : g < w.heap.size) (hc : NodesAt w g ts) (hsm : ∀ x ∈ ts, x.num.size ≤ 1000) (hEn : Env w)
    (hna : ∀ (W : World) (E : List Nat) (Ss : List Int) (ge gs ce cs : Nat), NodesAt W g ts → g < W.heap.size → endsF ts.length (ts.map Nd.kids) = some E → Ss.length = ts.length → ge < W.heap.size → gs < W.heap.size → (∀ t, t < ts.length → W.cell? ⟨ge, t, none⟩ = some (.int .i64 (E.getD t 0 : Nat))) → (∀ t, t < ts.length → W.cell? ⟨gs, t, none⟩ = some (.int .i64 (Ss.getD t 0))) →
      Calls Tryz.prog 81 #[.slice (some ⟨g, 0, none⟩) ts.length cap, .agg #[.slice (some ⟨ge, 0, none⟩) ts.length ce, .slice (some ⟨gs, 0, none⟩) ts.length cs]] W fun e w' => e = .returned (.bool (na E Ss)) ∧ Below W.heap.size W w') :
    Calls Tryz.prog 54 #[.slice ao ts.length cap] w (ChkPost na ts w) := by
  have hb : Below w.heap.size w (w.alloc (.cells #[.slice none 0 0, .slice none 0 0] 87)) := (Below.refl _ _).alloc (Nat.le_refl _) _
  have hw0 := heap_alloc_new w (.cells #[.slice none 0 0, .slice none 0 0] 87)
  have hlt : w.heap.size < (w.alloc (.cells #[.slice none 0 0, .slice none 0 0] 87)).heap.size := by simp
  by_cases h0 : ts.length = 0
  · have HF : Hid (shp ts = none) := Lib.hid (by unfold shp; rw [if_pos (.inl (List.length_eq_zero_iff.1 h0))])
    have HB := Lib.hid hb
    clear hao hc hb hsm hEn hna
    rw [h0]
    go_enter Tryz.func54, Tryz.ntmps54
    go_wp2
    (try simp only [Exit.inBlock, Exit.then])
    refine bodyPost_ret (v := .tuple #[.agg #[.slice none 0 0, .slice none 0 0], .bool false]) ?_ rfl (ChkPost.none_of HB.out HF.out)
    rw [results_cell_tmp rfl]
    go_simp
  by_cases hbig : 20000 < ts.length
  · have HF : Hid (shp ts = none) := Lib.hid (by unfold shp; rw [if_pos (.inr hbig)])
    have HB := Lib.hid hb
    clear hao hc hb hsm hEn hna
    generalize ts.length = n at *
    go_enter Tryz.func54, Tryz.ntmps54
    go_wp2
    (try simp only [Exit.inBlock, Exit.then])
    refine bodyPost_ret (v := .tuple #[.agg #[.slice none 0 0, .slice none 0 0], .bool false]) ?_ rfl (ChkPost.none_of HB.out HF.out)
    rw [results_cell_tmp rfl]
    go_simp
  obtain rfl := hao h0
  have HSM := Lib.hid hsm
  have HEn := Lib.hid hEn
  have HNA := Lib.hid hna
  clear hsm hEn hna
  have hte := termEnds_any (some ⟨g, 0, none⟩) g cap ts (w.alloc (.cells #[.slice none 0 0, .slice none 0 0] 87)) (by omega) (fun _ => rfl) (Nat.lt_trans hg hlt) (hc.below hb hg)
  unfold EndsPost at hte
  have HC := Lib.hid hc
  have HB := Lib.hid hb
  have HSH : Hid (shp ts = match endsF ts.length (ts.map Nd.kids) with
    | none => none
    | some E => if E.getD 0 0 = ts.length ∧ heightF 0 E [] 0 ≤ 257 then (srt ts E ts.length (List.replicate ts.length 0)).map fun S => (E, S) else none) := Lib.hid (by
      unfold shp; rw [if_neg (fun h => h.elim (fun h => h0 (by rw [h]; rfl)) hbig)])
  have hkl := kids_len (n := ts.length) (ks := ts.map Nd.kids) (by simp) (E := (endsF ts.length (ts.map Nd.kids)).getD [])
  have HK := Lib.hid hkl
  clear hc hb hao hkl
  cases he : endsF ts.length (ts.map Nd.kids) with
  | none =>
    rw [he] at hte
    have HF : Hid (shp ts = none) := Lib.hid (by rw [HSH.out, he])
    clear he HSH HK HNA
    generalize ts.length = n at *
    have e0 : ((n : Int) == 0) = false := by simp; omega
    have e1 : ¬ (20000 : Int) < (n : Int) := by omega
    go_enter Tryz.func54, Tryz.ntmps54
    go_wp2_with fail
    generalize w.alloc (.cells #[.slice none 0 0, .slice none 0 0] 87) = w1 at *
    generalize hS : w.heap.size = S at *
    have HS := Lib.hid hS
    clear hS
    refine hte.mono ?_
    rintro e w2 ⟨hb2, rfl⟩
    have HB2 := Lib.hid (HB.out.trans (hb2.mono (Nat.le_of_lt hlt)))
    have hw2 := (hb2.block _ hlt).trans hw0
    have z0 := heap_fz hw2 0
    have z1 := heap_fz hw2 1
    have d0 := heap_cell hw2 0
    have d1 := heap_cell hw2 1
    have HW2 := Lib.hid hw2
    clear hb2 hte hw2 hw0
    go_wp2
    (try simp only [Exit.inBlock, Exit.then])
    have hw4 := heap_set (heap_set HW2.out 0 (.slice none 0 0)) 1 (.slice none 0 0)
    have s0 : ((w2.setCell ⟨S, 0, none⟩ (.slice none 0 0)).setCell ⟨S, 1, none⟩ (.slice none 0 0)).cell? ⟨S, 0, none⟩ = some (.slice none 0 0) := heap_cell hw4 0
    have s1 : ((w2.setCell ⟨S, 0, none⟩ (.slice none 0 0)).setCell ⟨S, 1, none⟩ (.slice none 0 0)).cell? ⟨S, 1, none⟩ = some (.slice none 0 0) := heap_cell hw4 1
    refine bodyPost_ret (v := .tuple #[.agg #[.slice none 0 0, .slice none 0 0], .bool false]) ?_ rfl (ChkPost.none_of (by rw [HS.out]; exact (HB2.out.setCell (show S ≤ S from Nat.le_refl _) _).setCell (show S ≤ S from Nat.le_refl _) _) HF.out)
    rw [results_cell_tmp rfl]
    go_simp
  | some E =>
    rw [he] at hte
    obtain ⟨k1, k2, k3, k4⟩ := kids_len (n := ts.length) (ks := ts.map Nd.kids) (by simp) he
    have HSE : Hid (shp ts = if E.getD 0 0 = ts.length ∧ heightF 0 E [] 0 ≤ 257 then (srt ts E ts.length (List.replicate ts.length 0)).map fun S => (E, S) else none) := Lib.hid (by rw [HSH.out, he])
    have K1 := Lib.hid k1
    have K2 := Lib.hid k2
    have K3 := Lib.hid k3
    have K4 := Lib.hid k4
    have HEE := Lib.hid he
    clear k1 k2 k3 k4 he HSH HK
    generalize hn : ts.length = n at *
    have HN := Lib.hid hn
    clear hn
    have e0 : ((n : Int) == 0) = false := by simp; omega
    have e1 : ¬ (20000 : Int) < (n : Int) := by omega
    have e2 : 0 < n := by omega
    obtain ⟨i0, hi, hz0, hz1, hz2⟩ := info_parts infoInt
    go_enter Tryz.func54, Tryz.ntmps54
    go_wp2_with fail
    generalize w.alloc (.cells #[.slice none 0 0, .slice none 0 0] 87) = w1 at *
    generalize hS : w.heap.size = S at *
    have HS := Lib.hid hS
    clear hS
    refine hte.mono ?_
    rintro e w2 ⟨hb2, v, rfl, ho2⟩
    have hrow := row_at (E := E) (by rw [K1.out]; exact ho2) (by have := hb2.size; omega)
    obtain ⟨a2, g2, c2, hv, r1, r2, r3⟩ := hrow
    rw [K1.out] at hv
    subst hv
    obtain rfl := r1 (by rw [K1.out]; omega)
    have HCE : Hid (∀ t, t < n → w2.cell? ⟨g2, t, none⟩ = some (.int .i64 (E.getD t 0 : Nat))) := Lib.hid fun t ht => (r3 t (by rw [K1.out]; exact ht)).trans (by rw [List.getD_eq_getElem?_getD, List.getElem?_eq_getElem (by rw [K1.out]; exact ht)]; rfl)
    have HR3 := Lib.hid r3
    have hg2 : S < g2 := by have := (ho2.lt g2 rfl).1; omega
    have hc0 := HCE.out 0 e2
    have HB2 := Lib.hid (HB.out.trans (hb2.mono (Nat.le_of_lt hlt)))
    have hw2 := (hb2.block _ hlt).trans hw0
    have hlt2 := Nat.lt_of_lt_of_le hlt hb2.size
    have HO2 := Lib.hid ho2
    have HBX := Lib.hid hb2
    have HW2 := Lib.hid hw2
    clear hb2 hte hw2 hw0 ho2 r3 r1
    by_cases q1 : E.getD 0 0 = n
    · rw [q1] at hc0
      have hh := height_any (some ⟨g2, 0, none⟩) g2 c2 n E w2 (by omega) K1.out (fun _ => rfl) r2 HR3.out
      generalize hhe : heightF 0 E [] 0 = ht at *
      have HH := Lib.hid hhe
      clear hhe
      by_cases q2 : ht ≤ 257
      · have e3 : ¬ (257 : Int) < (ht : Int) := by omega
        have HF : Hid (shp ts = (srt ts E n (List.replicate n 0)).map fun S => (E, S)) := Lib.hid (by rw [HSE.out, if_pos ⟨q1, q2⟩])
        go_wp2_with fail
        refine hh.mono ?_
        rintro e w3 ⟨rfl, hb3⟩
        have HB3 := Lib.hid (HB2.out.trans (hb3.mono (Nat.le_of_lt hlt2)))
        have hw3 := (hb3.block _ hlt2).trans HW2.out
        have hM : S < w3.heap.size := Nat.lt_of_lt_of_le hlt2 hb3.size
        have hgM : g < w3.heap.size := by omega
        have hg2M : g2 < w3.heap.size := Nat.lt_of_lt_of_le r2 hb3.size
        have HC3 : Hid (NodesAt w3 g ts) := Lib.hid (HC.out.below HB3.out hg)
        have HCE3 : Hid (∀ t, t < n → w3.cell? ⟨g2, t, none⟩ = some (.int .i64 (E.getD t 0 : Nat))) := Lib.hid fun t ht => (hb3.cell (p := ⟨g2, t, none⟩) r2).trans (HCE.out t ht)
        have HW3 := Lib.hid hw3
        clear hh hb3 hc0 hw3 HCE HR3 HBX HO2 HW2 e0 e1 e3
        go_wp2_with (refine wpList_make_full _ rfl (.tmp 40) (.tmp 40) 23 rfl w3.heap.size 3 i0 (.int .i64 0) 1 Tryz.underlying23 hi hz0 hz1 .i64 .i64 n n n rfl rfl rfl rfl (by rw [hz2]; omega) (by unfold maxLen; omega) (Nat.le_refl _) ?_; intro w4 hown hgrow)
        have hb4 : Below w3.heap.size w3 w4 := (Below.refl _ _).grown hgrow (Nat.le_refl _) (fun k h => by cases h)
        have hown0 : w4.ownsRow w3.heap.size 3 1 (.slice (some ⟨w3.heap.size, 0, none⟩) n n) n (intsI (List.replicate n 0)) := by
          have e : (madeCells (Value.cells (.int .i64 0)) (n * 1)).toList = intsI (List.replicate n 0) := by rw [made_zero n]; simp [rowE, intsI]
          rwa [e] at hown
        have hX := heap_alloc_new w4 (.cells #[.slice (some ⟨g2, 0, none⟩) n c2, .slice (some ⟨w3.heap.size, 0, none⟩) n n] 87)
        have hS4 : w4.heap[S]? = _ := (hb4.block _ hM).trans HW3.out
        have hXl : w4.heap.size < (w4.alloc (.cells #[.slice (some ⟨g2, 0, none⟩) n c2, .slice (some ⟨w3.heap.size, 0, none⟩) n n] 87)).heap.size := by simp
        have hM4 := (hown0.lt w3.heap.size rfl).2
        have hS5 := (((Below.refl w4.heap.size w4).alloc (Nat.le_refl _) (.cells #[.slice (some ⟨g2, 0, none⟩) n c2, .slice (some ⟨w3.heap.size, 0, none⟩) n n] 87)).block S (by omega)).trans hS4
        have hown5 := hown0.alloc (.cells #[.slice (some ⟨g2, 0, none⟩) n c2, .slice (some ⟨w3.heap.size, 0, none⟩) n n] 87)
        have hb5 := hb4.alloc (by omega) (.cells #[.slice (some ⟨g2, 0, none⟩) n c2, .slice (some ⟨w3.heap.size, 0, none⟩) n n] 87)
        generalize w4.alloc (.cells #[.slice (some ⟨g2, 0, none⟩) n c2, .slice (some ⟨w3.heap.size, 0, none⟩) n n] 87) = w5 at *
        generalize hXe : w4.heap.size = X at *
        generalize hMe : w3.heap.size = M at *
        have HO5 := Lib.hid hown5
        have HB5 := Lib.hid hb5
        have HX5 := Lib.hid hX
        have HS5 := Lib.hid hS5
        have HMe := Lib.hid hMe
        clear hown hgrow hown0 hX hS5 hown5 hb5 hb4 hS4 hXe hMe
        go_loopw [7] (fun i wr => ∃ (j : Nat) (Ss : List Int), j ≤ n ∧ i = .int .i64 ((j : Int) - 1) ∧ Ss.length = n ∧ srt ts E j Ss = srt ts E n (List.replicate n 0) ∧ wr.ownsRow M 3 1 (.slice (some ⟨M, 0, none⟩) n n) n (intsI Ss) ∧ wr.heap[X]? = some (.cells #[.slice (some ⟨g2, 0, none⟩) n c2, .slice (some ⟨M, 0, none⟩) n n] 87 (0, 0)) ∧ wr.heap[S]? = some (.cells #[.slice none 0 0, .slice none 0 0] 87 (0, 0)) ∧ Below M w3 wr)
          (fun i _ => (intOf i + 1).toNat)
        case atStart => exact ⟨n, _, Nat.le_refl _, rfl, by simp, rfl, HO5.out, HX5.out, HS5.out, HB5.out⟩
        case round =>
          clear HO5 HX5 HS5 HB5
          obtain ⟨j, Ss, hj, rfl, hsl, hsr, hown, hX, hSS, hbel⟩ := hrel
          have HO := Lib.hid hown
          have HXX := Lib.hid hX
          have HSX := Lib.hid hSS
          have HBL := Lib.hid hbel
          have HSR := Lib.hid hsr
          have HSL := Lib.hid hsl
          have hSw := lt_of_heap hSS
          have HBS := Lib.hid (HB3.out.trans (hbel.mono (Nat.le_of_lt hM)))
          cases j with
          | zero =>
            have hz0' : ((0 : Nat) : Int) - 1 = -1 := rfl
            rw [hz0']
            have HFN : Hid (shp ts = some (E, Ss)) := Lib.hid (by rw [HF.out, ← HSR.out]; rfl)
            have HR6 : Hid (RW M X S g2 c2 n w3 Ss wr) := Lib.hid ⟨HO.out, HXX.out, HSX.out, HBL.out⟩
            have HNW : Hid (∀ W, RW M X S g2 c2 n w3 Ss W → Calls Tryz.prog 81 #[.slice (some ⟨g, 0, none⟩) n cap, .agg #[.slice (some ⟨g2, 0, none⟩) n c2, .slice (some ⟨M, 0, none⟩) n n]] W fun e w' => e = .returned (.bool (na E Ss)) ∧ Below W.heap.size W w') := Lib.hid fun W hW =>
              HNA.out W E Ss g2 M c2 n (HC3.out.below hW.bel hgM) (Nat.lt_trans hgM (hW.row.lt M rfl).2) HEE.out HSL.out (Nat.lt_trans hg2M (hW.row.lt M rfl).2) (hW.row.lt M rfl).2 (fun t ht => (hW.bel.cell (p := ⟨g2, t, none⟩) hg2M).trans (HCE3.out t ht)) (fun t ht => hW.get HSL.out ht)
            have HZ : Hid (∀ W, RW M X S g2 c2 n w3 Ss W → RZ M S g2 c2 n w E Ss ((W.setCell ⟨S, 0, none⟩ (.slice (some ⟨g2, 0, none⟩) n c2)).setCell ⟨S, 1, none⟩ (.slice (some ⟨M, 0, none⟩) n n))) := Lib.hid fun W hW => by
              have hsz : ((W.setCell ⟨S, 0, none⟩ (.slice (some ⟨g2, 0, none⟩) n c2)).setCell ⟨S, 1, none⟩ (.slice (some ⟨M, 0, none⟩) n n)).heap.size = W.heap.size := by simp [World.setCell]
              have hot : ∀ (b t : Nat), b ≠ S → ((W.setCell ⟨S, 0, none⟩ (.slice (some ⟨g2, 0, none⟩) n c2)).setCell ⟨S, 1, none⟩ (.slice (some ⟨M, 0, none⟩) n n)).cell? ⟨b, t, none⟩ = W.cell? ⟨b, t, none⟩ := fun b t hb => by
                rw [World.cell?_setCell_other _ _ _ _ (by intro e; cases e; exact hb rfl), World.cell?_setCell_other _ _ _ _ (by intro e; cases e; exact hb rfl)]
              have hMW := (hW.row.lt M rfl).2
              refine ⟨heap_set (heap_set hW.bs 0 _) 1 _, fun t ht => (hot g2 t (by omega)).trans ((hW.bel.cell (p := ⟨g2, t, none⟩) hg2M).trans (HCE3.out t ht)), fun t ht => (hot M t (by omega)).trans (hW.get HSL.out ht), by rw [hsz]; omega, by rw [hsz]; omega, by rw [hsz]; omega, ?_⟩
              exact ((HB3.out.trans (hW.bel.mono (Nat.le_of_lt hM))).setCell (show S ≤ S from Nat.le_refl _) _).setCell (show S ≤ S from Nat.le_refl _) _
            clear hown hX hSS hbel hsr hsl
            go_wp2
            refine add_region [[], [], [], [1, 2], [0, 1, 2, 3], [0, 1, 2, 3, 4]] (fun W => RW M X S g2 c2 n w3 Ss W) (fun _ => True) ?_
            iterate 3
              apply a_con
              · intro x; go_simp; done
              · intro x W R hW hF hR
                have b0 := heap_cell hW.bx 0
                have b1 := heap_cell hW.bx 1
                clear hF
                unfold addAt
                go_simp
                simp only [addUpon]
                exact hR _ (Below.refl _ _)
              simp only [Act.put, List.setIfInBounds_toArray, List.set_cons_zero, List.set_cons_succ]
            apply a_con
            · intro x; go_simp; done
            · intro x W R hW hF hR
              clear hF
              unfold addAt
              go_simp
              simp only [addUpon]
              refine (HNW.out W hW).mono ?_
              rintro e w4 ⟨rfl, hb4⟩
              exact ⟨_, rfl, hR _ hb4⟩
            simp only [Act.put, List.setIfInBounds_toArray, List.set_cons_zero, List.set_cons_succ]
            refine a_wrt (fun _ W => RZ M S g2 c2 n w E Ss W) (fun _ _ _ h hb => h.far hb) (fun _ _ _ _ h => h) ?_ ?_ ?_
            · intro x; go_simp; done
            · intro x W R hW hF hD hR
              have z0 := heap_fz hW.bs 0
              have z1 := heap_fz hW.bs 1
              have d0 := heap_cell hW.bs 0
              have d1 := heap_cell hW.bs 1
              have hz := HZ.out W hW
              clear hF hD
              unfold addAt
              go_simp
              simp only [addUpon]
              exact hR _ _ hz trivial (by simp [World.setCell])
            simp only [Act.put]
            apply a_late
            · intro x; go_simp; done
            · intro x W R hW hF hR
              clear hF hW
              unfold addAt
              go_simp
              simp only [addUpon]
              exact hR _ (Below.refl _ _)
            simp only [Act.put, List.setIfInBounds_toArray, List.set_cons_zero, List.set_cons_succ]
            refine a_nil (by kernel_rfl) (by kernel_rfl) (by kernel_rfl) (fun _ _ h hb => h.far hb) (fun _ _ _ _ => trivial) (fun _ _ => trivial) (HR6.out.drew) ?_
            intro x W hE hW hF hD
            clear hD
            have HT := Lib.hid (hF.2.1.2 rfl)
            have s0 := heap_cell HT.out.bs 0
            have s1 := heap_cell HT.out.bs 1
            clear hW hF
            try go_wp2
            (try simp only [Exit.inBlock, Exit.then])
            refine bodyPost_ret (v := .tuple #[.agg #[.slice (some ⟨g2, 0, none⟩) n c2, .slice (some ⟨M, 0, none⟩) n n], .bool (na E Ss)]) ?_ rfl ?_
            · rw [results_cell_tmp rfl]
              go_simp
            · refine ⟨by rw [HS.out]; exact HT.out.bel, _, _, _, _, _, _, _, rfl, ?_⟩
              rw [HFN.out]
              refine ⟨rfl, g2, M, rfl, by rw [HN.out], rfl, by rw [HN.out], HT.out.l1, HT.out.l2, by rw [HS.out]; omega, by rw [HS.out]; omega, fun t ht => HT.out.e t (by rw [HN.out] at ht; exact ht), fun t ht => HT.out.s t (by rw [HN.out] at ht; exact ht)⟩
          | succ j =>
            have hji : ((j + 1 : Nat) : Int) - 1 = (j : Int) := by omega
            rw [hji]
            have hjl : j < ts.length := by have := HN.out; omega
            have hjn : j < n := by omega
            have hia := HC3.out.below hbel hgM
            have HIA := Lib.hid hia
            have hx : ts[j]? = some ts[j] := List.getElem?_eq_getElem hjl
            have hgd : ts.getD j ndZ = ts[j] := by rw [List.getD_eq_getElem?_getD, hx]; rfl
            have c0 := hia j _ hx 0 (by omega)
            have c1 := hia j _ hx 1 (by omega)
            have c2' := hia j _ hx 2 (by omega)
            have c3 := hia j _ hx 3 (by omega)
            have c4 := hia j _ hx 4 (by omega)
            simp only [Nd.cells, List.getElem?_cons_succ, List.getElem?_cons_zero, Nat.add_zero] at c0 c1 c2' c3 c4
            have hEn : Env wr := HEn.out.far (by rw [HS.out]; exact HBS.out)
            have hfp := fieldsPermitted_any ts[j] wr (HSM.out _ (List.getElem_mem hjl)) hEn
            have HEw := Lib.hid hEn
            have hk4 := K4.out j hjn
            have hmk : (ts.map Nd.kids).getD j 0 = ts[j].kids := by rw [List.getD_eq_getElem?_getD, List.getElem?_map, hx]; rfl
            rw [hmk] at hk4
            have HGD := Lib.hid hgd
            clear hown hX hSS hbel hsr hsl hji hia hx hgd hEn hmk
            have HXN : Hid (∀ k, k < 5 → w3.cell? ⟨g, j * 5 + k, none⟩ = ts[j].cells[k]?) := Lib.hid fun k hk => HC3.out j _ (List.getElem?_eq_getElem hjl) k hk
            have hXM : M < X := hM4
            generalize ts[j] = x at *
            obtain ⟨op, sort, name, num, kids⟩ := x
            simp only [Nd.val] at c0 c1 c2' c3 c4 hfp hk4
            by_cases hf : fpF ⟨op, sort, name, num, kids⟩ = true
            · rw [hf] at hfp
              have hpf := fp_facts hf
              have HOP : Hid (1 ≤ op ∧ op ≤ 20) := Lib.hid hpf.1
              have HLN : Hid ((arF op).1 ≤ (kidsS E Ss j).length) := Lib.hid (by unfold kidsS; rw [List.length_map, hk4.2]; exact hpf.2)
              have HKL : Hid ((kidsS E Ss j).length ≤ 1000000) := Lib.hid (by unfold kidsS; rw [List.length_map]; have h1 := trail_len E (j + 1) (E.getD j 0); have h2 := K3.out j hjn; omega)
              by_cases hop : op = 15
              · subst hop
                have hj2 : j + 1 < n := by
                  have h1 := trail_len E (j + 1) (E.getD j 0)
                  have h2 := K3.out j hjn
                  have h3 := hk4.2
                  have h4 : (2 : Int) ≤ kids := hpf.2
                  omega
                have hx2 : ts[j + 1]? = some (ts[j + 1]'(by rw [HN.out]; exact hj2)) := List.getElem?_eq_getElem _
                have hgd2 : ts.getD (j + 1) ndZ = ts[j + 1]'(by rw [HN.out]; exact hj2) := by rw [List.getD_eq_getElem?_getD, hx2]; rfl
                have c5 := HIA.out (j + 1) _ hx2 0 (by omega)
                simp only [Nd.cells, List.getElem?_cons_zero, Nat.add_zero] at c5
                have HGD2 := Lib.hid hgd2
                clear hx2 hgd2
                generalize ts[j + 1]'(by rw [HN.out]; exact hj2) = y at *
                obtain ⟨op2, sort2, name2, num2, kids2⟩ := y
                simp only at c5
                by_cases h3 : op2 = 3
                · subst h3
                  go_wp2_with fail
                  refine hfp.mono ?_
                  rintro e w6 ⟨rfl, hb6⟩
                  have hc6 := (hb6.cell (p := ⟨g, j * 5, none⟩) (by show g < wr.heap.size; have := HBL.out.size; omega)).trans c0
                  have hc7 := (hb6.cell (p := ⟨g, (j + 1) * 5, none⟩) (by show g < wr.heap.size; have := HBL.out.size; omega)).trans c5
                  go_wp2
                  have HR6 : Hid (RW M X S g2 c2 n w3 Ss w6) := Lib.hid (RW.far ⟨HO.out, HXX.out, HSX.out, HBL.out⟩ hb6)
                  have HN3 : Hid (∀ k, k < 5 → w3.cell? ⟨g, j * 5 + k, none⟩ = (Nd.mk 15 sort name num kids).cells[k]?) := Lib.hid (HXN.out)
                  have HKS : Hid (∀ W, RW M X S g2 c2 n w3 Ss W → Calls Tryz.prog 80 #[.agg #[.slice (some ⟨g2, 0, none⟩) n c2, .slice (some ⟨M, 0, none⟩) n n], .int .i64 j] W fun e w' => ∃ v, e = .returned v ∧ (∃ a g' c, v = .slice a (kidsS E Ss j).length c ∧ RowI w' a g' (kidsS E Ss j)) ∧ Below W.heap.size W w') := Lib.hid fun W hW => by
                    have hks := kidSorts_any (some ⟨g2, 0, none⟩) (some ⟨M, 0, none⟩) g2 M c2 n E Ss j W (by rw [K1.out]; omega) (HSL.out.trans K1.out.symm) (fun _ => rfl) (fun _ => rfl) (Nat.lt_of_lt_of_le hg2M (Nat.le_of_lt (hW.row.lt M rfl).2)) (hW.row.lt M rfl).2
                      (fun t ht => (hW.bel.cell (p := ⟨g2, t, none⟩) hg2M).trans ((HCE3.out t (by rw [K1.out] at ht; exact ht)).trans (by rw [List.getD_eq_getElem?_getD, List.getElem?_eq_getElem ht]; rfl)))
                      (fun t ht => (hW.row.cellAt t (by rw [K1.out] at ht; omega)).trans (by rw [K1.out] at ht; unfold intsI; rw [List.getElem?_map, List.getD_eq_getElem?_getD, List.getElem?_eq_getElem (by rw [HSL.out]; exact ht)]; rfl))
                      (by rw [K1.out]; exact hjn) (fun t ht => K2.out t (by rw [K1.out] at ht; exact ht)) (fun t ht => by rw [K1.out] at ht ⊢; exact K3.out t ht)
                    rw [K1.out] at hks
                    refine hks.mono ?_
                    rintro e w' ⟨v, rfl, hown', hb'⟩
                    obtain ⟨a, g', c, hv, q1, q2, q3⟩ := rowI_at hown' (Nat.lt_of_lt_of_le (Nat.lt_of_le_of_lt (Nat.zero_le _) (hW.row.lt M rfl).2) hb'.size) HKL.out
                    exact ⟨v, rfl, ⟨a, g', c, hv, ⟨q1, q2, HKL.out, q3⟩⟩, hb'⟩
                  have HRS : Hid (∀ W a g' c, RowI W a g' (kidsS E Ss j) → Calls Tryz.prog 79 #[.agg #[.int .i64 15, .int .i64 sort, .string name, .string num, .int .i64 kids], .slice a (kidsS E Ss j).length c] W fun e w' => e = .returned (.tuple #[.int .i64 (rsF 15 sort (kidsS E Ss j)).1, .bool (rsF 15 sort (kidsS E Ss j)).2]) ∧ Below W.heap.size W w') := Lib.hid fun W a g' c hrow => resultSort_any ⟨15, sort, name, num, kids⟩ a g' c _ W hrow HOP.out HLN.out
                  have hi5 : 0 ≤ (j : Int) ∧ (j : Int) < (n : Int) := by omega
                  clear hfp hb6 c0 c1 c2' c3 c4
                  generalize hr1 : (rsF 15 sort (kidsS E Ss j)).1 = r1 at *
                  cases hr2 : (rsF 15 sort (kidsS E Ss j)).2
                  · have HF' : Hid (shp ts = none) := Lib.hid (by
                      rw [HF.out, ← HSR.out]; unfold srt; rw [HGD.out]; rw [hf, HGD2.out]; simp only [beq_self_eq_true, Bool.not_true, Bool.and_false, Bool.not_false, Bool.and_true, if_true]; simp only [hr2]; rfl)
                    replace HF := HF'
                    clear HF'
                    refine add_region [[], [0], [], [], [], [3, 4], [3, 4, 5], [], [], [7, 8], [3, 4, 5, 6, 7, 8, 9], [3, 4, 5, 6, 7, 8, 9, 10], [3, 4, 5, 6, 7, 8, 9, 10, 11], [3, 4, 5, 6, 7, 8, 9, 10, 11], [0, 1, 2, 3, 4, 5, 6, 7, 8, 9, 10, 11, 12], [0, 1, 2, 3, 4, 5, 6, 7, 8, 9, 10, 11, 12, 14], [0, 1, 2, 3, 4, 5, 6, 7, 8, 9, 10, 11, 12, 13, 14, 15]] (fun W => RW M X S g2 c2 n w3 Ss W) (fun _ => True) ?_
                    iterate 6
                      apply a_con
                      · intro x; go_simp; done
                      · intro x W R hW hF hR
                        have b0 := heap_cell hW.bx 0
                        have b1 := heap_cell hW.bx 1
                        clear hF
                        unfold addAt
                        go_simp
                        simp only [addUpon]
                        exact hR _ (Below.refl _ _)
                      simp only [Act.put, List.setIfInBounds_toArray, List.set_cons_zero, List.set_cons_succ]
                    apply a_con
                    · intro x; go_simp; done
                    · intro x W R hW hF hR
                      have nn := fun k (hk : k < 5) => (hW.bel.cell (p := ⟨g, j * 5 + k, none⟩) hgM).trans (HN3.out k hk)
                      have n0 := nn 0 (by omega)
                      have n1 := nn 1 (by omega)
                      have n2 := nn 2 (by omega)
                      have n3 := nn 3 (by omega)
                      have n4 := nn 4 (by omega)
                      simp only [Nd.cells, List.getElem?_cons_succ, List.getElem?_cons_zero, Nat.add_zero] at n0 n1 n2 n3 n4
                      clear hF nn
                      unfold addAt
                      go_simp
                      simp only [addUpon]
                      exact hR _ (Below.refl _ _)
                    simp only [Act.put, List.setIfInBounds_toArray, List.set_cons_zero, List.set_cons_succ]
                    iterate 2
                      apply a_con
                      · intro x; go_simp; done
                      · intro x W R hW hF hR
                        have b0 := heap_cell hW.bx 0
                        have b1 := heap_cell hW.bx 1
                        clear hF
                        unfold addAt
                        go_simp
                        simp only [addUpon]
                        exact hR _ (Below.refl _ _)
                      simp only [Act.put, List.setIfInBounds_toArray, List.set_cons_zero, List.set_cons_succ]
                    refine a_opq (fun v W => ∃ a g' c, v = .slice a (kidsS E Ss j).length c ∧ RowI W a g' (kidsS E Ss j)) (fun _ _ _ h hb => let ⟨a, g', c, h1, h2⟩ := h; ⟨a, g', c, h1, h2.far hb⟩) ?_ ?_ ?_
                    · intro x; go_simp; done
                    · intro x W R hW hF hR
                      have b0 := heap_cell hW.bx 0
                      have b1 := heap_cell hW.bx 1
                      clear hF
                      unfold addAt
                      go_simp
                      simp only [addUpon]
                      refine (HKS.out W hW).mono ?_
                      rintro e w4 ⟨v, rfl, hv, hb4⟩
                      exact ⟨v, rfl, hR _ _ hv hb4⟩
                    simp only [Act.put, List.setIfInBounds_toArray, List.set_cons_zero, List.set_cons_succ, List.length_cons, List.length_nil, Nat.zero_add, Nat.reduceAdd]
                    apply a_con
                    · intro x; go_simp; done
                    · intro x W R hW hF hR
                      obtain ⟨a, g', c, hx, hrow⟩ := hF.1.2 rfl rfl rfl
                      simp only [hx]
                      clear hF
                      unfold addAt
                      go_simp
                      simp only [addUpon]
                      have hrs := HRS.out W a g' c hrow
                      rw [hr2] at hrs
                      refine hrs.mono ?_
                      rintro e w4 ⟨rfl, hb4⟩
                      exact ⟨_, rfl, hR _ hb4⟩
                    simp only [Act.put, List.setIfInBounds_toArray, List.set_cons_zero, List.set_cons_succ]
                    iterate 2
                      apply a_con
                      · intro x; go_simp; done
                      · intro x W R hW hF hR
                        have b0 := heap_cell hW.bx 0
                        have b1 := heap_cell hW.bx 1
                        clear hF
                        unfold addAt
                        go_simp
                        simp only [addUpon]
                        exact hR _ (Below.refl _ _)
                      simp only [Act.put, List.setIfInBounds_toArray, List.set_cons_zero, List.set_cons_succ]
                    apply a_weak
                    · intro x; go_simp; done
                    · intro x W R hW hF hR
                      clear hF hW
                      unfold addAt
                      go_simp
                      simp only [addUpon]
                      exact hR _ (Below.refl _ _)
                    simp only [Act.put, List.setIfInBounds_toArray, List.set_cons_zero, List.set_cons_succ]
                    apply a_con
                    · intro x; go_simp; done
                    · intro x W R hW hF hR
                      have b0 := heap_cell hW.bx 0
                      have b1 := heap_cell hW.bx 1
                      clear hF
                      unfold addAt
                      go_simp
                      simp only [addUpon]
                      exact hR _ (Below.refl _ _)
                    simp only [Act.put, List.setIfInBounds_toArray, List.set_cons_zero, List.set_cons_succ]
                    refine a_wrt (fun _ W => RW M X S g2 c2 n w3 (Ss.set j r1) W) (fun _ _ _ h hb => h.far hb) (fun _ _ _ _ h => h) ?_ ?_ ?_
                    · intro x; go_simp; done
                    · intro x W R hW hF hD hR
                      have fz := hW.row.frozenAt j
                      obtain ⟨u, hu⟩ : ∃ u, W.cell? ⟨M, j, none⟩ = some u := ⟨_, (hW.row.cellAt j (by omega)).trans (by unfold intsI; rw [List.getElem?_map, List.getElem?_eq_getElem (by rw [HSL.out]; omega)]; rfl)⟩
                      clear hF hD
                      unfold addAt
                      go_simp
                      simp only [addUpon]
                      exact hR _ _ (hW.set hXM hM r1) trivial (by simp [World.setCell])
                    simp only [Act.put]
                    apply a_late
                    · intro x; go_simp; done
                    · intro x W R hW hF hR
                      clear hF hW
                      unfold addAt
                      go_simp
                      simp only [addUpon]
                      exact hR _ (Below.refl _ _)
                    simp only [Act.put, List.setIfInBounds_toArray, List.set_cons_zero, List.set_cons_succ]
                    refine a_nil (by kernel_rfl) (by kernel_rfl) (by kernel_rfl) (fun _ _ h hb => h.far hb) (fun _ _ _ _ => trivial) (fun _ _ => trivial) (HR6.out.drew) ?_
                    intro x W hE hW hF hD
                    clear hD
                    have HT := Lib.hid (hF.2.1.2 rfl)
                    clear hW hF
                    have HB7 := Lib.hid (HB3.out.trans (HT.out.bel.mono (Nat.le_of_lt hM)))
                    have HW7 := Lib.hid HT.out.bs
                    have z0 := heap_fz HW7.out 0
                    have z1 := heap_fz HW7.out 1
                    have d0 := heap_cell HW7.out 0
                    have d1 := heap_cell HW7.out 1
                    go_wp2
                    (try simp only [Exit.inBlock, Exit.then])
                    have hw4 := heap_set (heap_set HW7.out 0 (.slice none 0 0)) 1 (.slice none 0 0)
                    have s0 : ((W.setCell ⟨S, 0, none⟩ (.slice none 0 0)).setCell ⟨S, 1, none⟩ (.slice none 0 0)).cell? ⟨S, 0, none⟩ = some (.slice none 0 0) := heap_cell hw4 0
                    have s1 : ((W.setCell ⟨S, 0, none⟩ (.slice none 0 0)).setCell ⟨S, 1, none⟩ (.slice none 0 0)).cell? ⟨S, 1, none⟩ = some (.slice none 0 0) := heap_cell hw4 1
                    refine bodyPost_ret (v := .tuple #[.agg #[.slice none 0 0, .slice none 0 0], .bool false]) ?_ rfl (ChkPost.none_of (by rw [HS.out]; exact (HB7.out.setCell (show S ≤ S from Nat.le_refl _) _).setCell (show S ≤ S from Nat.le_refl _) _) HF.out)
                    rw [results_cell_tmp rfl]
                    go_simp
                  · have HSN : Hid (srt ts E j (Ss.set j r1) = srt ts E n (List.replicate n 0)) := Lib.hid (by
                      rw [← HSR.out]; conv => rhs; unfold srt
                      rw [HGD.out]; rw [hf, HGD2.out]; simp only [beq_self_eq_true, Bool.not_true, Bool.and_false, Bool.not_false, Bool.and_true, if_true]; simp only [hr2, hr1]; rfl)
                    refine add_region [[], [0], [], [], [], [3, 4], [3, 4, 5], [], [], [7, 8], [3, 4, 5, 6, 7, 8, 9], [3, 4, 5, 6, 7, 8, 9, 10], [3, 4, 5, 6, 7, 8, 9, 10, 11], [3, 4, 5, 6, 7, 8, 9, 10, 11], [0, 1, 2, 3, 4, 5, 6, 7, 8, 9, 10, 11, 12], [0, 1, 2, 3, 4, 5, 6, 7, 8, 9, 10, 11, 12, 14], [0, 1, 2, 3, 4, 5, 6, 7, 8, 9, 10, 11, 12, 13, 14, 15]] (fun W => RW M X S g2 c2 n w3 Ss W) (fun _ => True) ?_
                    iterate 6
                      apply a_con
                      · intro x; go_simp; done
                      · intro x W R hW hF hR
                        have b0 := heap_cell hW.bx 0
                        have b1 := heap_cell hW.bx 1
                        clear hF
                        unfold addAt
                        go_simp
                        simp only [addUpon]
                        exact hR _ (Below.refl _ _)
                      simp only [Act.put, List.setIfInBounds_toArray, List.set_cons_zero, List.set_cons_succ]
                    apply a_con
                    · intro x; go_simp; done
                    · intro x W R hW hF hR
                      have nn := fun k (hk : k < 5) => (hW.bel.cell (p := ⟨g, j * 5 + k, none⟩) hgM).trans (HN3.out k hk)
                      have n0 := nn 0 (by omega)
                      have n1 := nn 1 (by omega)
                      have n2 := nn 2 (by omega)
                      have n3 := nn 3 (by omega)
                      have n4 := nn 4 (by omega)
                      simp only [Nd.cells, List.getElem?_cons_succ, List.getElem?_cons_zero, Nat.add_zero] at n0 n1 n2 n3 n4
                      clear hF nn
                      unfold addAt
                      go_simp
                      simp only [addUpon]
                      exact hR _ (Below.refl _ _)
                    simp only [Act.put, List.setIfInBounds_toArray, List.set_cons_zero, List.set_cons_succ]
                    iterate 2
                      apply a_con
                      · intro x; go_simp; done
                      · intro x W R hW hF hR
                        have b0 := heap_cell hW.bx 0
                        have b1 := heap_cell hW.bx 1
                        clear hF
                        unfold addAt
                        go_simp
                        simp only [addUpon]
                        exact hR _ (Below.refl _ _)
                      simp only [Act.put, List.setIfInBounds_toArray, List.set_cons_zero, List.set_cons_succ]
                    refine a_opq (fun v W => ∃ a g' c, v = .slice a (kidsS E Ss j).length c ∧ RowI W a g' (kidsS E Ss j)) (fun _ _ _ h hb => let ⟨a, g', c, h1, h2⟩ := h; ⟨a, g', c, h1, h2.far hb⟩) ?_ ?_ ?_
                    · intro x; go_simp; done
                    · intro x W R hW hF hR
                      have b0 := heap_cell hW.bx 0
                      have b1 := heap_cell hW.bx 1
                      clear hF
                      unfold addAt
                      go_simp
                      simp only [addUpon]
                      refine (HKS.out W hW).mono ?_
                      rintro e w4 ⟨v, rfl, hv, hb4⟩
                      exact ⟨v, rfl, hR _ _ hv hb4⟩
                    simp only [Act.put, List.setIfInBounds_toArray, List.set_cons_zero, List.set_cons_succ, List.length_cons, List.length_nil, Nat.zero_add, Nat.reduceAdd]
                    apply a_con
                    · intro x; go_simp; done
                    · intro x W R hW hF hR
                      obtain ⟨a, g', c, hx, hrow⟩ := hF.1.2 rfl rfl rfl
                      simp only [hx]
                      clear hF
                      unfold addAt
                      go_simp
                      simp only [addUpon]
                      have hrs := HRS.out W a g' c hrow
                      rw [hr2] at hrs
                      refine hrs.mono ?_
                      rintro e w4 ⟨rfl, hb4⟩
                      exact ⟨_, rfl, hR _ hb4⟩
                    simp only [Act.put, List.setIfInBounds_toArray, List.set_cons_zero, List.set_cons_succ]
                    iterate 2
                      apply a_con
                      · intro x; go_simp; done
                      · intro x W R hW hF hR
                        have b0 := heap_cell hW.bx 0
                        have b1 := heap_cell hW.bx 1
                        clear hF
                        unfold addAt
                        go_simp
                        simp only [addUpon]
                        exact hR _ (Below.refl _ _)
                      simp only [Act.put, List.setIfInBounds_toArray, List.set_cons_zero, List.set_cons_succ]
                    apply a_weak
                    · intro x; go_simp; done
                    · intro x W R hW hF hR
                      clear hF hW
                      unfold addAt
                      go_simp
                      simp only [addUpon]
                      exact hR _ (Below.refl _ _)
                    simp only [Act.put, List.setIfInBounds_toArray, List.set_cons_zero, List.set_cons_succ]
                    apply a_con
                    · intro x; go_simp; done
                    · intro x W R hW hF hR
                      have b0 := heap_cell hW.bx 0
                      have b1 := heap_cell hW.bx 1
                      clear hF
                      unfold addAt
                      go_simp
                      simp only [addUpon]
                      exact hR _ (Below.refl _ _)
                    simp only [Act.put, List.setIfInBounds_toArray, List.set_cons_zero, List.set_cons_succ]
                    refine a_wrt (fun _ W => RW M X S g2 c2 n w3 (Ss.set j r1) W) (fun _ _ _ h hb => h.far hb) (fun _ _ _ _ h => h) ?_ ?_ ?_
                    · intro x; go_simp; done
                    · intro x W R hW hF hD hR
                      have fz := hW.row.frozenAt j
                      obtain ⟨u, hu⟩ : ∃ u, W.cell? ⟨M, j, none⟩ = some u := ⟨_, (hW.row.cellAt j (by omega)).trans (by unfold intsI; rw [List.getElem?_map, List.getElem?_eq_getElem (by rw [HSL.out]; omega)]; rfl)⟩
                      clear hF hD
                      unfold addAt
                      go_simp
                      simp only [addUpon]
                      exact hR _ _ (hW.set hXM hM r1) trivial (by simp [World.setCell])
                    simp only [Act.put]
                    apply a_late
                    · intro x; go_simp; done
                    · intro x W R hW hF hR
                      clear hF hW
                      unfold addAt
                      go_simp
                      simp only [addUpon]
                      exact hR _ (Below.refl _ _)
                    simp only [Act.put, List.setIfInBounds_toArray, List.set_cons_zero, List.set_cons_succ]
                    refine a_nil (by kernel_rfl) (by kernel_rfl) (by kernel_rfl) (fun _ _ h hb => h.far hb) (fun _ _ _ _ => trivial) (fun _ _ => trivial) (HR6.out.drew) ?_
                    intro x W hE hW hF hD
                    clear hD
                    have HT := Lib.hid (hF.2.1.2 rfl)
                    clear hW hF
                    go_wp2
                    go_roundw
                    case rel => exact ⟨j, Ss.set j r1, by omega, rfl, by rw [List.length_set]; exact HSL.out, HSN.out, HT.out.row, HT.out.bx, HT.out.bs, HT.out.bel⟩
                    case measure => simp [intOf]
                · have g3 : (op2 == 3) = false := by simp [h3]
                  have HF' : Hid (shp ts = none) := Lib.hid (by
                    rw [HF.out, ← HSR.out]; unfold srt; rw [HGD.out, HGD2.out, hf]; simp only [g3]; rfl)
                  replace HF := HF'
                  clear HF'
                  go_wp2_with fail
                  refine hfp.mono ?_
                  rintro e w6 ⟨rfl, hb6⟩
                  have hc6 := (hb6.cell (p := ⟨g, j * 5, none⟩) (by show g < wr.heap.size; have := HBL.out.size; omega)).trans c0
                  have hc7 := (hb6.cell (p := ⟨g, (j + 1) * 5, none⟩) (by show g < wr.heap.size; have := HBL.out.size; omega)).trans c5
                  have HB6 := Lib.hid (HBS.out.trans (hb6.mono (Nat.le_of_lt hSw)))
                  have hw6 := (hb6.block _ hSw).trans HSX.out
                  clear hfp hb6 c0 c1 c2' c3 c4 c5
                  have z0 := heap_fz hw6 0
                  have z1 := heap_fz hw6 1
                  have d0 := heap_cell hw6 0
                  have d1 := heap_cell hw6 1
                  have HW6 := Lib.hid hw6
                  clear hw6
                  go_wp2
                  (try simp only [Exit.inBlock, Exit.then])
                  have hw4 := heap_set (heap_set HW6.out 0 (.slice none 0 0)) 1 (.slice none 0 0)
                  have s0 : ((w6.setCell ⟨S, 0, none⟩ (.slice none 0 0)).setCell ⟨S, 1, none⟩ (.slice none 0 0)).cell? ⟨S, 0, none⟩ = some (.slice none 0 0) := heap_cell hw4 0
                  have s1 : ((w6.setCell ⟨S, 0, none⟩ (.slice none 0 0)).setCell ⟨S, 1, none⟩ (.slice none 0 0)).cell? ⟨S, 1, none⟩ = some (.slice none 0 0) := heap_cell hw4 1
                  refine bodyPost_ret (v := .tuple #[.agg #[.slice none 0 0, .slice none 0 0], .bool false]) ?_ rfl (ChkPost.none_of (by rw [HS.out]; exact (HB6.out.setCell (show S ≤ S from Nat.le_refl _) _).setCell (show S ≤ S from Nat.le_refl _) _) HF.out)
                  rw [results_cell_tmp rfl]
                  go_simp
              · have g15 : (op == 15) = false := by simp [hop]
                go_wp2_with fail
                refine hfp.mono ?_
                rintro e w6 ⟨rfl, hb6⟩
                have hc6 := (hb6.cell (p := ⟨g, j * 5, none⟩) (by show g < wr.heap.size; have := HBL.out.size; omega)).trans c0
                go_wp2
                have HR6 : Hid (RW M X S g2 c2 n w3 Ss w6) := Lib.hid (RW.far ⟨HO.out, HXX.out, HSX.out, HBL.out⟩ hb6)
                have HN3 : Hid (∀ k, k < 5 → w3.cell? ⟨g, j * 5 + k, none⟩ = (Nd.mk op sort name num kids).cells[k]?) := Lib.hid (HXN.out)
                have HKS : Hid (∀ W, RW M X S g2 c2 n w3 Ss W → Calls Tryz.prog 80 #[.agg #[.slice (some ⟨g2, 0, none⟩) n c2, .slice (some ⟨M, 0, none⟩) n n], .int .i64 j] W fun e w' => ∃ v, e = .returned v ∧ (∃ a g' c, v = .slice a (kidsS E Ss j).length c ∧ RowI w' a g' (kidsS E Ss j)) ∧ Below W.heap.size W w') := Lib.hid fun W hW => by
                  have hks := kidSorts_any (some ⟨g2, 0, none⟩) (some ⟨M, 0, none⟩) g2 M c2 n E Ss j W (by rw [K1.out]; omega) (HSL.out.trans K1.out.symm) (fun _ => rfl) (fun _ => rfl) (Nat.lt_of_lt_of_le hg2M (Nat.le_of_lt (hW.row.lt M rfl).2)) (hW.row.lt M rfl).2
                    (fun t ht => (hW.bel.cell (p := ⟨g2, t, none⟩) hg2M).trans ((HCE3.out t (by rw [K1.out] at ht; exact ht)).trans (by rw [List.getD_eq_getElem?_getD, List.getElem?_eq_getElem ht]; rfl)))
                    (fun t ht => (hW.row.cellAt t (by rw [K1.out] at ht; omega)).trans (by rw [K1.out] at ht; unfold intsI; rw [List.getElem?_map, List.getD_eq_getElem?_getD, List.getElem?_eq_getElem (by rw [HSL.out]; exact ht)]; rfl))
                    (by rw [K1.out]; exact hjn) (fun t ht => K2.out t (by rw [K1.out] at ht; exact ht)) (fun t ht => by rw [K1.out] at ht ⊢; exact K3.out t ht)
                  rw [K1.out] at hks
                  refine hks.mono ?_
                  rintro e w' ⟨v, rfl, hown', hb'⟩
                  obtain ⟨a, g', c, hv, q1, q2, q3⟩ := rowI_at hown' (Nat.lt_of_lt_of_le (Nat.lt_of_le_of_lt (Nat.zero_le _) (hW.row.lt M rfl).2) hb'.size) HKL.out
                  exact ⟨v, rfl, ⟨a, g', c, hv, ⟨q1, q2, HKL.out, q3⟩⟩, hb'⟩
                have HRS : Hid (∀ W a g' c, RowI W a g' (kidsS E Ss j) → Calls Tryz.prog 79 #[.agg #[.int .i64 op, .int .i64 sort, .string name, .string num, .int .i64 kids], .slice a (kidsS E Ss j).length c] W fun e w' => e = .returned (.tuple #[.int .i64 (rsF op sort (kidsS E Ss j)).1, .bool (rsF op sort (kidsS E Ss j)).2]) ∧ Below W.heap.size W w') := Lib.hid fun W a g' c hrow => resultSort_any ⟨op, sort, name, num, kids⟩ a g' c _ W hrow HOP.out HLN.out
                have hi5 : 0 ≤ (j : Int) ∧ (j : Int) < (n : Int) := by omega
                clear hfp hb6 c0 c1 c2' c3 c4
                generalize hr1 : (rsF op sort (kidsS E Ss j)).1 = r1 at *
                cases hr2 : (rsF op sort (kidsS E Ss j)).2
                · have HF' : Hid (shp ts = none) := Lib.hid (by
                    rw [HF.out, ← HSR.out]; unfold srt; rw [HGD.out]; rw [hf]; simp only [g15, Bool.false_and, Bool.not_false, Bool.and_true, if_true]; simp only [hr2]; rfl)
                  replace HF := HF'
                  clear HF'
                  refine add_region [[], [0], [], [], [], [3, 4], [3, 4, 5], [], [], [7, 8], [3, 4, 5, 6, 7, 8, 9], [3, 4, 5, 6, 7, 8, 9, 10], [3, 4, 5, 6, 7, 8, 9, 10, 11], [3, 4, 5, 6, 7, 8, 9, 10, 11], [0, 1, 2, 3, 4, 5, 6, 7, 8, 9, 10, 11, 12], [0, 1, 2, 3, 4, 5, 6, 7, 8, 9, 10, 11, 12, 14], [0, 1, 2, 3, 4, 5, 6, 7, 8, 9, 10, 11, 12, 13, 14, 15]] (fun W => RW M X S g2 c2 n w3 Ss W) (fun _ => True) ?_
                  iterate 6
                    apply a_con
                    · intro x; go_simp; done
                    · intro x W R hW hF hR
                      have b0 := heap_cell hW.bx 0
                      have b1 := heap_cell hW.bx 1
                      clear hF
                      unfold addAt
                      go_simp
                      simp only [addUpon]
                      exact hR _ (Below.refl _ _)
                    simp only [Act.put, List.setIfInBounds_toArray, List.set_cons_zero, List.set_cons_succ]
                  apply a_con
                  · intro x; go_simp; done
                  · intro x W R hW hF hR
                    have nn := fun k (hk : k < 5) => (hW.bel.cell (p := ⟨g, j * 5 + k, none⟩) hgM).trans (HN3.out k hk)
                    have n0 := nn 0 (by omega)
                    have n1 := nn 1 (by omega)
                    have n2 := nn 2 (by omega)
                    have n3 := nn 3 (by omega)
                    have n4 := nn 4 (by omega)
                    simp only [Nd.cells, List.getElem?_cons_succ, List.getElem?_cons_zero, Nat.add_zero] at n0 n1 n2 n3 n4
                    clear hF nn
                    unfold addAt
                    go_simp
                    simp only [addUpon]
                    exact hR _ (Below.refl _ _)
                  simp only [Act.put, List.setIfInBounds_toArray, List.set_cons_zero, List.set_cons_succ]
                  iterate 2
                    apply a_con
                    · intro x; go_simp; done
                    · intro x W R hW hF hR
                      have b0 := heap_cell hW.bx 0
                      have b1 := heap_cell hW.bx 1
                      clear hF
                      unfold addAt
                      go_simp
                      simp only [addUpon]
                      exact hR _ (Below.refl _ _)
                    simp only [Act.put, List.setIfInBounds_toArray, List.set_cons_zero, List.set_cons_succ]
                  refine a_opq (fun v W => ∃ a g' c, v = .slice a (kidsS E Ss j).length c ∧ RowI W a g' (kidsS E Ss j)) (fun _ _ _ h hb => let ⟨a, g', c, h1, h2⟩ := h; ⟨a, g', c, h1, h2.far hb⟩) ?_ ?_ ?_
                  · intro x; go_simp; done
                  · intro x W R hW hF hR
                    have b0 := heap_cell hW.bx 0
                    have b1 := heap_cell hW.bx 1
                    clear hF
                    unfold addAt
                    go_simp
                    simp only [addUpon]
                    refine (HKS.out W hW).mono ?_
                    rintro e w4 ⟨v, rfl, hv, hb4⟩
                    exact ⟨v, rfl, hR _ _ hv hb4⟩
                  simp only [Act.put, List.setIfInBounds_toArray, List.set_cons_zero, List.set_cons_succ, List.length_cons, List.length_nil, Nat.zero_add, Nat.reduceAdd]
                  apply a_con
                  · intro x; go_simp; done
                  · intro x W R hW hF hR
                    obtain ⟨a, g', c, hx, hrow⟩ := hF.1.2 rfl rfl rfl
                    simp only [hx]
                    clear hF
                    unfold addAt
                    go_simp
                    simp only [addUpon]
                    have hrs := HRS.out W a g' c hrow
                    rw [hr2] at hrs
                    refine hrs.mono ?_
                    rintro e w4 ⟨rfl, hb4⟩
                    exact ⟨_, rfl, hR _ hb4⟩
                  simp only [Act.put, List.setIfInBounds_toArray, List.set_cons_zero, List.set_cons_succ]
                  iterate 2
                    apply a_con
                    · intro x; go_simp; done
                    · intro x W R hW hF hR
                      have b0 := heap_cell hW.bx 0
                      have b1 := heap_cell hW.bx 1
                      clear hF
                      unfold addAt
                      go_simp
                      simp only [addUpon]
                      exact hR _ (Below.refl _ _)
                    simp only [Act.put, List.setIfInBounds_toArray, List.set_cons_zero, List.set_cons_succ]
                  apply a_weak
                  · intro x; go_simp; done
                  · intro x W R hW hF hR
                    clear hF hW
                    unfold addAt
                    go_simp
                    simp only [addUpon]
                    exact hR _ (Below.refl _ _)
                  simp only [Act.put, List.setIfInBounds_toArray, List.set_cons_zero, List.set_cons_succ]
                  apply a_con
                  · intro x; go_simp; done
                  · intro x W R hW hF hR
                    have b0 := heap_cell hW.bx 0
                    have b1 := heap_cell hW.bx 1
                    clear hF
                    unfold addAt
                    go_simp
                    simp only [addUpon]
                    exact hR _ (Below.refl _ _)
                  simp only [Act.put, List.setIfInBounds_toArray, List.set_cons_zero, List.set_cons_succ]
                  refine a_wrt (fun _ W => RW M X S g2 c2 n w3 (Ss.set j r1) W) (fun _ _ _ h hb => h.far hb) (fun _ _ _ _ h => h) ?_ ?_ ?_
                  · intro x; go_simp; done
                  · intro x W R hW hF hD hR
                    have fz := hW.row.frozenAt j
                    obtain ⟨u, hu⟩ : ∃ u, W.cell? ⟨M, j, none⟩ = some u := ⟨_, (hW.row.cellAt j (by omega)).trans (by unfold intsI; rw [List.getElem?_map, List.getElem?_eq_getElem (by rw [HSL.out]; omega)]; rfl)⟩
                    clear hF hD
                    unfold addAt
                    go_simp
                    simp only [addUpon]
                    exact hR _ _ (hW.set hXM hM r1) trivial (by simp [World.setCell])
                  simp only [Act.put]
                  apply a_late
                  · intro x; go_simp; done
                  · intro x W R hW hF hR
                    clear hF hW
                    unfold addAt
                    go_simp
                    simp only [addUpon]
                    exact hR _ (Below.refl _ _)
                  simp only [Act.put, List.setIfInBounds_toArray, List.set_cons_zero, List.set_cons_succ]
                  refine a_nil (by kernel_rfl) (by kernel_rfl) (by kernel_rfl) (fun _ _ h hb => h.far hb) (fun _ _ _ _ => trivial) (fun _ _ => trivial) (HR6.out.drew) ?_
                  intro x W hE hW hF hD
                  clear hD
                  have HT := Lib.hid (hF.2.1.2 rfl)
                  clear hW hF
                  have HB7 := Lib.hid (HB3.out.trans (HT.out.bel.mono (Nat.le_of_lt hM)))
                  have HW7 := Lib.hid HT.out.bs
                  have z0 := heap_fz HW7.out 0
                  have z1 := heap_fz HW7.out 1
                  have d0 := heap_cell HW7.out 0
                  have d1 := heap_cell HW7.out 1
                  go_wp2
                  (try simp only [Exit.inBlock, Exit.then])
                  have hw4 := heap_set (heap_set HW7.out 0 (.slice none 0 0)) 1 (.slice none 0 0)
                  have s0 : ((W.setCell ⟨S, 0, none⟩ (.slice none 0 0)).setCell ⟨S, 1, none⟩ (.slice none 0 0)).cell? ⟨S, 0, none⟩ = some (.slice none 0 0) := heap_cell hw4 0
                  have s1 : ((W.setCell ⟨S, 0, none⟩ (.slice none 0 0)).setCell ⟨S, 1, none⟩ (.slice none 0 0)).cell? ⟨S, 1, none⟩ = some (.slice none 0 0) := heap_cell hw4 1
                  refine bodyPost_ret (v := .tuple #[.agg #[.slice none 0 0, .slice none 0 0], .bool false]) ?_ rfl (ChkPost.none_of (by rw [HS.out]; exact (HB7.out.setCell (show S ≤ S from Nat.le_refl _) _).setCell (show S ≤ S from Nat.le_refl _) _) HF.out)
                  rw [results_cell_tmp rfl]
                  go_simp
                · have HSN : Hid (srt ts E j (Ss.set j r1) = srt ts E n (List.replicate n 0)) := Lib.hid (by
                    rw [← HSR.out]; conv => rhs; unfold srt
                    rw [HGD.out]; rw [hf]; simp only [g15, Bool.false_and, Bool.not_false, Bool.and_true, if_true]; simp only [hr2, hr1]; rfl)
                  refine add_region [[], [0], [], [], [], [3, 4], [3, 4, 5], [], [], [7, 8], [3, 4, 5, 6, 7, 8, 9], [3, 4, 5, 6, 7, 8, 9, 10], [3, 4, 5, 6, 7, 8, 9, 10, 11], [3, 4, 5, 6, 7, 8, 9, 10, 11], [0, 1, 2, 3, 4, 5, 6, 7, 8, 9, 10, 11, 12], [0, 1, 2, 3, 4, 5, 6, 7, 8, 9, 10, 11, 12, 14], [0, 1, 2, 3, 4, 5, 6, 7, 8, 9, 10, 11, 12, 13, 14, 15]] (fun W => RW M X S g2 c2 n w3 Ss W) (fun _ => True) ?_
                  iterate 6
                    apply a_con
                    · intro x; go_simp; done
                    · intro x W R hW hF hR
                      have b0 := heap_cell hW.bx 0
                      have b1 := heap_cell hW.bx 1
                      clear hF
                      unfold addAt
                      go_simp
                      simp only [addUpon]
                      exact hR _ (Below.refl _ _)
                    simp only [Act.put, List.setIfInBounds_toArray, List.set_cons_zero, List.set_cons_succ]
                  apply a_con
                  · intro x; go_simp; done
                  · intro x W R hW hF hR
                    have nn := fun k (hk : k < 5) => (hW.bel.cell (p := ⟨g, j * 5 + k, none⟩) hgM).trans (HN3.out k hk)
                    have n0 := nn 0 (by omega)
                    have n1 := nn 1 (by omega)
                    have n2 := nn 2 (by omega)
                    have n3 := nn 3 (by omega)
                    have n4 := nn 4 (by omega)
                    simp only [Nd.cells, List.getElem?_cons_succ, List.getElem?_cons_zero, Nat.add_zero] at n0 n1 n2 n3 n4
                    clear hF nn
                    unfold addAt
                    go_simp
                    simp only [addUpon]
                    exact hR _ (Below.refl _ _)
                  simp only [Act.put, List.setIfInBounds_toArray, List.set_cons_zero, List.set_cons_succ]
                  iterate 2
                    apply a_con
                    · intro x; go_simp; done
                    · intro x W R hW hF hR
                      have b0 := heap_cell hW.bx 0
                      have b1 := heap_cell hW.bx 1
                      clear hF
                      unfold addAt
                      go_simp
                      simp only [addUpon]
                      exact hR _ (Below.refl _ _)
                    simp only [Act.put, List.setIfInBounds_toArray, List.set_cons_zero, List.set_cons_succ]
                  refine a_opq (fun v W => ∃ a g' c, v = .slice a (kidsS E Ss j).length c ∧ RowI W a g' (kidsS E Ss j)) (fun _ _ _ h hb => let ⟨a, g', c, h1, h2⟩ := h; ⟨a, g', c, h1, h2.far hb⟩) ?_ ?_ ?_
                  · intro x; go_simp; done
                  · intro x W R hW hF hR
                    have b0 := heap_cell hW.bx 0
                    have b1 := heap_cell hW.bx 1
                    clear hF
                    unfold addAt
                    go_simp
                    simp only [addUpon]
                    refine (HKS.out W hW).mono ?_
                    rintro e w4 ⟨v, rfl, hv, hb4⟩
                    exact ⟨v, rfl, hR _ _ hv hb4⟩
                  simp only [Act.put, List.setIfInBounds_toArray, List.set_cons_zero, List.set_cons_succ, List.length_cons, List.length_nil, Nat.zero_add, Nat.reduceAdd]
                  apply a_con
                  · intro x; go_simp; done
                  · intro x W R hW hF hR
                    obtain ⟨a, g', c, hx, hrow⟩ := hF.1.2 rfl rfl rfl
                    simp only [hx]
                    clear hF
                    unfold addAt
                    go_simp
                    simp only [addUpon]
                    have hrs := HRS.out W a g' c hrow
                    rw [hr2] at hrs
                    refine hrs.mono ?_
                    rintro e w4 ⟨rfl, hb4⟩
                    exact ⟨_, rfl, hR _ hb4⟩
                  simp only [Act.put, List.setIfInBounds_toArray, List.set_cons_zero, List.set_cons_succ]
                  iterate 2
                    apply a_con
                    · intro x; go_simp; done
                    · intro x W R hW hF hR
                      have b0 := heap_cell hW.bx 0
                      have b1 := heap_cell hW.bx 1
                      clear hF
                      unfold addAt
                      go_simp
                      simp only [addUpon]
                      exact hR _ (Below.refl _ _)
                    simp only [Act.put, List.setIfInBounds_toArray, List.set_cons_zero, List.set_cons_succ]
                  apply a_weak
                  · intro x; go_simp; done
                  · intro x W R hW hF hR
                    clear hF hW
                    unfold addAt
                    go_simp
                    simp only [addUpon]
                    exact hR _ (Below.refl _ _)
                  simp only [Act.put, List.setIfInBounds_toArray, List.set_cons_zero, List.set_cons_succ]
                  apply a_con
                  · intro x; go_simp; done
                  · intro x W R hW hF hR
                    have b0 := heap_cell hW.bx 0
                    have b1 := heap_cell hW.bx 1
                    clear hF
                    unfold addAt
                    go_simp
                    simp only [addUpon]
                    exact hR _ (Below.refl _ _)
                  simp only [Act.put, List.setIfInBounds_toArray, List.set_cons_zero, List.set_cons_succ]
                  refine a_wrt (fun _ W => RW M X S g2 c2 n w3 (Ss.set j r1) W) (fun _ _ _ h hb => h.far hb) (fun _ _ _ _ h => h) ?_ ?_ ?_
                  · intro x; go_simp; done
                  · intro x W R hW hF hD hR
                    have fz := hW.row.frozenAt j
                    obtain ⟨u, hu⟩ : ∃ u, W.cell? ⟨M, j, none⟩ = some u := ⟨_, (hW.row.cellAt j (by omega)).trans (by unfold intsI; rw [List.getElem?_map, List.getElem?_eq_getElem (by rw [HSL.out]; omega)]; rfl)⟩
                    clear hF hD
                    unfold addAt
                    go_simp
                    simp only [addUpon]
                    exact hR _ _ (hW.set hXM hM r1) trivial (by simp [World.setCell])
                  simp only [Act.put]
                  apply a_late
                  · intro x; go_simp; done
                  · intro x W R hW hF hR
                    clear hF hW
                    unfold addAt
                    go_simp
                    simp only [addUpon]
                    exact hR _ (Below.refl _ _)
                  simp only [Act.put, List.setIfInBounds_toArray, List.set_cons_zero, List.set_cons_succ]
                  refine a_nil (by kernel_rfl) (by kernel_rfl) (by kernel_rfl) (fun _ _ h hb => h.far hb) (fun _ _ _ _ => trivial) (fun _ _ => trivial) (HR6.out.drew) ?_
                  intro x W hE hW hF hD
                  clear hD
                  have HT := Lib.hid (hF.2.1.2 rfl)
                  clear hW hF
                  go_wp2
                  go_roundw
                  case rel => exact ⟨j, Ss.set j r1, by omega, rfl, by rw [List.length_set]; exact HSL.out, HSN.out, HT.out.row, HT.out.bx, HT.out.bs, HT.out.bel⟩
                  case measure => simp [intOf]
            · have hf' : fpF ⟨op, sort, name, num, kids⟩ = false := by simpa using hf
              rw [hf'] at hfp
              have HF' : Hid (shp ts = none) := Lib.hid (by
                rw [HF.out, ← HSR.out]; unfold srt; rw [HGD.out, hf']; rfl)
              replace HF := HF'
              clear hf hf' HF'
              go_wp2_with fail
              refine hfp.mono ?_
              rintro e w6 ⟨rfl, hb6⟩
              have HB6 := Lib.hid (HBS.out.trans (hb6.mono (Nat.le_of_lt hSw)))
              have hw6 := (hb6.block _ hSw).trans HSX.out
              clear hfp hb6 c0 c1 c2' c3 c4
              have z0 := heap_fz hw6 0
              have z1 := heap_fz hw6 1
              have d0 := heap_cell hw6 0
              have d1 := heap_cell hw6 1
              have HW6 := Lib.hid hw6
              clear hw6
              go_wp2
              (try simp only [Exit.inBlock, Exit.then])
              have hw4 := heap_set (heap_set HW6.out 0 (.slice none 0 0)) 1 (.slice none 0 0)
              have s0 : ((w6.setCell ⟨S, 0, none⟩ (.slice none 0 0)).setCell ⟨S, 1, none⟩ (.slice none 0 0)).cell? ⟨S, 0, none⟩ = some (.slice none 0 0) := heap_cell hw4 0
              have s1 : ((w6.setCell ⟨S, 0, none⟩ (.slice none 0 0)).setCell ⟨S, 1, none⟩ (.slice none 0 0)).cell? ⟨S, 1, none⟩ = some (.slice none 0 0) := heap_cell hw4 1
              refine bodyPost_ret (v := .tuple #[.agg #[.slice none 0 0, .slice none 0 0], .bool false]) ?_ rfl (ChkPost.none_of (by rw [HS.out]; exact (HB6.out.setCell (show S ≤ S from Nat.le_refl _) _).setCell (show S ≤ S from Nat.le_refl _) _) HF.out)
              rw [results_cell_tmp rfl]
              go_simp
      · have e3 : (257 : Int) < (ht : Int) := by omega
        have HF : Hid (shp ts = none) := Lib.hid (by rw [HSE.out, if_neg (fun h => q2 h.2)])
        go_wp2_with fail
        refine hh.mono ?_
        rintro e w3 ⟨rfl, hb3⟩
        have HB3 := Lib.hid (HB2.out.trans (hb3.mono (Nat.le_of_lt hlt2)))
        have hw3 := (hb3.block _ hlt2).trans HW2.out
        clear hb3 hh hc0
        have z0 := heap_fz hw3 0
        have z1 := heap_fz hw3 1
        have d0 := heap_cell hw3 0
        have d1 := heap_cell hw3 1
        have HW3 := Lib.hid hw3
        clear hw3
        go_wp2
        (try simp only [Exit.inBlock, Exit.then])
        have hw4 := heap_set (heap_set HW3.out 0 (.slice none 0 0)) 1 (.slice none 0 0)
        have s0 : ((w3.setCell ⟨S, 0, none⟩ (.slice none 0 0)).setCell ⟨S, 1, none⟩ (.slice none 0 0)).cell? ⟨S, 0, none⟩ = some (.slice none 0 0) := heap_cell hw4 0
        have s1 : ((w3.setCell ⟨S, 0, none⟩ (.slice none 0 0)).setCell ⟨S, 1, none⟩ (.slice none 0 0)).cell? ⟨S, 1, none⟩ = some (.slice none 0 0) := heap_cell hw4 1
        refine bodyPost_ret (v := .tuple #[.agg #[.slice none 0 0, .slice none 0 0], .bool false]) ?_ rfl (ChkPost.none_of (by rw [HS.out]; exact (HB3.out.setCell (show S ≤ S from Nat.le_refl _) _).setCell (show S ≤ S from Nat.le_refl _) _) HF.out)
        rw [results_cell_tmp rfl]
        go_simp
    · have HF : Hid (shp ts = none) := Lib.hid (by rw [HSE.out, if_neg (fun h => q1 h.1)])
      generalize E.getD 0 0 = x0 at *
      have e3 : ((x0 : Int) == (n : Int)) = false := by simp; omega
      have z0 := heap_fz HW2.out 0
      have z1 := heap_fz HW2.out 1
      have d0 := heap_cell HW2.out 0
      have d1 := heap_cell HW2.out 1
      go_wp2
      (try simp only [Exit.inBlock, Exit.then])
      have hw4 := heap_set (heap_set HW2.out 0 (.slice none 0 0)) 1 (.slice none 0 0)
      have s0 : ((w2.setCell ⟨S, 0, none⟩ (.slice none 0 0)).setCell ⟨S, 1, none⟩ (.slice none 0 0)).cell? ⟨S, 0, none⟩ = some (.slice none 0 0) := heap_cell hw4 0
      have s1 : ((w2.setCell ⟨S, 0, none⟩ (.slice none 0 0)).setCell ⟨S, 1, none⟩ (.slice none 0 0)).cell? ⟨S, 1, none⟩ = some (.slice none 0 0) := heap_cell hw4 1
      refine bodyPost_ret (v := .tuple #[.agg #[.slice none 0 0, .slice none 0 0], .bool false]) ?_ rfl (ChkPost.none_of (by rw [HS.out]; exact (HB2.out.setCell (show S ≤ S from Nat.le_refl _) _).setCell (show S ≤ S from Nat.le_refl _) _) HF.out)
      rw [results_cell_tmp rfl]
      go_simp
end
end Go.Proofs.YthefknoicelhaaaGreatDoor.Se

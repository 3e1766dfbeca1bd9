/- The sanity check of layer 5: Fits, apply, Apply. -/
import Derived.Test.YthefknoicelhaaaGreatDoorFZJ
import Derived.Test.YthefknoicelhaaaGreatDoorFUJ
import Derived.Test.YthefknoicelhaaaGreatDoorFVL
import Derived.Test.YthefknoicelhaaaGreatDoorFEJ
namespace Go.Proofs.YthefknoicelhaaaGreatDoor.Se
open Go.RowKit Nmx
open Go.MapKept

section
set_option maxRecDepth 100000
set_option maxHeartbeats 4000000
theorem fits_any (g cap : Nat) (ts : List Nd) (E : List Nat) (w : World) (hl : ts.length ≤ 20000) (hg : g < w.heap.size) (hc : NodesAt w g ts) (he : endsF ts.length (ts.map Nd.kids) = some E) (hE : E.length = ts.length) (hh : heightF 0 E [] 0 ≤ 257) :
    Calls Tryz.prog 72 #[.slice (some ⟨g, 0, none⟩) ts.length cap] w fun e w' => e = .returned (.bool true) ∧ Below w.heap.size w w' := by
  have hte := termEnds_any (some ⟨g, 0, none⟩) g cap ts w (by omega) (fun _ => rfl) hg hc
  unfold EndsPost at hte
  rw [he] at hte
  have hhi : ((heightF 0 E [] 0 : Nat) : Int) ≤ 257 := by omega
  have HE := Lib.hid hE
  clear he hc hh hE
  obtain ⟨n, hn⟩ : ∃ n, ts.length = n := ⟨_, rfl⟩
  rw [hn] at hl hte HE ⊢
  clear hn
  go_enter Tryz.func72, Tryz.ntmps72
  go_wp2_with fail
  refine hte.mono ?_
  rintro e w2 ⟨hb2, v, rfl, ho2⟩
  have hrow := row_at (E := E) (by rw [HE.out]; exact ho2) (by have := hb2.size; omega)
  obtain ⟨a2, g2, c2, hv, r1, r2, r3⟩ := hrow
  rw [HE.out] at hv
  subst hv
  have hhc := height_any a2 g2 c2 n E w2 (by omega) HE.out (fun h => r1 (by rw [HE.out]; exact h)) r2 r3
  have HB := Lib.hid hb2
  have hli : (n : Int) ≤ 20000 := by omega
  clear hte r1 r3 ho2 hb2
  generalize heightF 0 E [] 0 = hgt at *
  go_wp2_with fail
  refine hhc.mono ?_
  rintro e w3 ⟨rfl, hb3⟩
  have HB3 := Lib.hid (HB.out.trans (hb3.mono HB.out.size))
  clear hhc hb3
  go_wp2
  go_ret
  exact ⟨rfl, HB3.out⟩
end
/-- what was seen, round by round -/
def apV : Nat → List (ByteArray × Int)
  | 0 => []
  | 1 => []
  | 2 => [(⟨#[121]⟩, 2)]
  | _ => [(⟨#[121]⟩, 2), (⟨#[120]⟩, 2)]
def apL : Nat → List (List UInt8)
  | 0 => []
  | 1 => []
  | 2 => [[120]]
  | _ => [[120], [121]]
/-- what every round keeps -/
structure Ap (S Q m : Nat) (tb : List (ByteArray × Value)) (w : World) (V : List (ByteArray × Int)) (L : List (List UInt8)) (W : World) : Prop where
  uz : Uz S V [] W
  se : SetS W Q L
  tb : MapS W m tb
  bel : Below S w W
  q : S + 2 < Q
  m : m < S
theorem Ap.far {S Q m : Nat} {tb : List (ByteArray × Value)} {w : World} {V : List (ByteArray × Int)} {L : List (List UInt8)} {W W' : World} (h : Ap S Q m tb w V L W) (hb : Below W.heap.size W W') : Ap S Q m tb w V L W' :=
  ⟨h.uz.far hb, h.se.far hb, h.tb.far hb, h.bel.trans (hb.mono (by have := h.uz.lt; omega)), h.q, h.m⟩
theorem Ap.use {S Q m : Nat} {tb : List (ByteArray × Value)} {w : World} {V V' : List (ByteArray × Int)} {L : List (List UInt8)} {W W' : World} (h : Ap S Q m tb w V L W) (hu : Uz S V' [] W') (hg : W.grownBy W' (some S)) : Ap S Q m tb w V' L W' :=
  ⟨hu, h.se.but (hg.block _ h.se.lt (fun e => by have := Option.some.inj e; have := h.q; omega)), h.tb.but (hg.block _ h.tb.lt (fun e => by have := Option.some.inj e; have := h.m; omega)), h.bel.grown hg (by have := h.uz.lt; omega) (fun k e => by cases e; exact Nat.le_refl _), h.q, h.m⟩
theorem Ap.see {S Q m : Nat} {tb : List (ByteArray × Value)} {w : World} {V : List (ByteArray × Int)} {L L' : List (List UInt8)} {W W' : World} (h : Ap S Q m tb w V L W) (hs : SetS W' Q L') (hg : W.grownBy W' (some Q)) : Ap S Q m tb w V L' W' :=
  ⟨h.uz.grown hg (by have := h.q; omega) (by have := h.q; omega) (by have := h.q; omega), hs, h.tb.but (hg.block _ h.tb.lt (fun e => by have := Option.some.inj e; have := h.m; have := h.q; omega)), h.bel.grown hg (by have := h.uz.lt; omega) (fun k e => by cases e; have := h.q; omega), h.q, h.m⟩
theorem Ap.drew {S Q m : Nat} {tb : List (ByteArray × Value)} {w : World} {V : List (ByteArray × Int)} {L : List (List UInt8)} {W : World} (h : Ap S Q m tb w V L W) : Ap S Q m tb w V L W.drew := h.far (Below.refl _ _).drew
section
set_option maxRecDepth 100000
set_option maxHeartbeats 4000000
theorem applyXY (gt ct gy gx cy cx m : Nat) (w : World) (hN : NodesAt w gt (aT 120 121)) (hy : NodesAt w gy [vT 121]) (hx : NodesAt w gx [vT 120]) (hm : MapS w m (tab2 (.slice (some ⟨gy, 0, none⟩) 1 cy) (.slice (some ⟨gx, 0, none⟩) 1 cx) 2)) (hgt : gt < w.heap.size) (hgy : gy < w.heap.size) (hgx : gx < w.heap.size) :
    Calls Tryz.prog 49 #[.slice (some ⟨gt, 0, none⟩) 3 ct, .map (some m)] w fun e w' => ∃ g c, e = .returned (.tuple #[.slice (some ⟨g, 0, none⟩) 3 c, .int .i64 0]) ∧ NodesAt w' g (aT 121 120) ∧ g < w'.heap.size ∧ Below w.heap.size w w' := by
  obtain ⟨i0, hi, hz0, hz1, hz2⟩ := info_parts infoNode
  obtain ⟨i0, hi, hz0, hz1, hz2⟩ := info_parts infoNode
  obtain ⟨i0, hi, hz0, hz1, hz2⟩ := info_parts infoNode
  have HNT := Lib.hid hN
  have HNY := Lib.hid hy
  have HNX := Lib.hid hx
  have HMT := Lib.hid hm
  have hnu := newUses_any w
  have hm1 := @run_makeMap0 Tryz.prog 75
  clear hN hy hx hm
  go_enter Tryz.func49, Tryz.ntmps49
  go_wp2_with fail
  refine hnu.mono ?_
  rintro e w2 ⟨rfl, hu, hb2⟩
  have hA := alloc_far' w2 (.map #[] 0)
  have hap : Ap w.heap.size w2.heap.size m (tab2 (.slice (some ⟨gy, 0, none⟩) 1 cy) (.slice (some ⟨gx, 0, none⟩) 1 cx) 2) w (apV 0) (apL 0) (w2.alloc (.map #[] 0)) :=
    ⟨hu.far hA, SetS.made w2, (HMT.out.far hb2).far hA, hb2.trans (hA.mono hb2.size), hu.lt, HMT.out.lt⟩
  have HAP := Lib.hid hap
  clear hnu hu hb2 hA hap
  go_wp2_with fail
  generalize hw1 : w2.alloc (.map #[] 0) = w1 at *
  generalize hS : w.heap.size = S at *
  generalize hQ : w2.heap.size = Q at *
  have HS := Lib.hid hS
  clear hw1 hS hQ hm1
  go_loopw [23, 7, 8] (fun iv sv av wr => ∃ k : Nat, k ≤ 3 ∧ iv = .int .i64 k ∧ sv = .int .i64 k ∧ av = .bool true ∧ Ap S Q m (tab2 (.slice (some ⟨gy, 0, none⟩) 1 cy) (.slice (some ⟨gx, 0, none⟩) 1 cx) 2) w (apV k) (apL k) wr) (fun iv _ _ _ => 3 - (intOf iv).toNat)
  case atStart => exact ⟨0, by omega, rfl, rfl, rfl, HAP.out⟩
  case round =>
    obtain ⟨k, hk, rfl, rfl, rfl, hap⟩ := hrel
    clear HAP
    have HAP := Lib.hid hap
    have hbS : Below w.heap.size w wr := by rw [HS.out]; exact hap.bel
    have hNT := HNT.out.below hbS (by rw [HS.out]; exact hgt)
    have hNY := HNY.out.below hbS (by rw [HS.out]; exact hgy)
    have hNX := HNX.out.below hbS (by rw [HS.out]; exact hgx)
    have HT := Lib.hid hNT
    have HY := Lib.hid hNY
    have HX := Lib.hid hNX
    clear hap hbS hNT hNY hNX
    match k, hk with
    | 0, hk =>
      have c0 : wr.cell? ⟨gt, 0, none⟩ = (⟨14, 0, ⟨#[]⟩, ⟨#[]⟩, 2⟩ : Nd).cells[0]? := HT.out 0 (⟨14, 0, ⟨#[]⟩, ⟨#[]⟩, 2⟩ : Nd) rfl 0 (by omega)
      have c1 : wr.cell? ⟨gt, 1, none⟩ = (⟨14, 0, ⟨#[]⟩, ⟨#[]⟩, 2⟩ : Nd).cells[1]? := HT.out 0 (⟨14, 0, ⟨#[]⟩, ⟨#[]⟩, 2⟩ : Nd) rfl 1 (by omega)
      have c2 : wr.cell? ⟨gt, 2, none⟩ = (⟨14, 0, ⟨#[]⟩, ⟨#[]⟩, 2⟩ : Nd).cells[2]? := HT.out 0 (⟨14, 0, ⟨#[]⟩, ⟨#[]⟩, 2⟩ : Nd) rfl 2 (by omega)
      have c3 : wr.cell? ⟨gt, 3, none⟩ = (⟨14, 0, ⟨#[]⟩, ⟨#[]⟩, 2⟩ : Nd).cells[3]? := HT.out 0 (⟨14, 0, ⟨#[]⟩, ⟨#[]⟩, 2⟩ : Nd) rfl 3 (by omega)
      have c4 : wr.cell? ⟨gt, 4, none⟩ = (⟨14, 0, ⟨#[]⟩, ⟨#[]⟩, 2⟩ : Nd).cells[4]? := HT.out 0 (⟨14, 0, ⟨#[]⟩, ⟨#[]⟩, 2⟩ : Nd) rfl 4 (by omega)
      simp only [Nd.cells, List.getElem?_cons_succ, List.getElem?_cons_zero] at c0 c1 c2 c3 c4
      have hal := alloc_far' wr (.cells #[.int .i64 14, .int .i64 0, .string ⟨#[]⟩, .string ⟨#[]⟩, .int .i64 2] 51)
      have HAA := Lib.hid (HAP.out.far hal)
      have hcall := usesNode_any S (apV 0) gt ct 3 0 (⟨14, 0, ⟨#[]⟩, ⟨#[]⟩, 2⟩ : Nd) _ HAA.out.uz (by omega) (fun j hj => (hal.cell (p := ⟨gt, 0 * 5 + j, none⟩) (Nat.lt_of_lt_of_le hgt (by have := HAP.out.uz.lt; omega))).trans (HT.out 0 _ rfl j hj)) (by decide)
      clear hal
      go_wp2_with (at_lookup; go_loud (refine wpList_look_miss rfl 9 26 79 _ _ rfl Tryz.underlying9 Tryz.underlying79 m _ rfl HAA.out.tb ⟨#[]⟩ rfl _ (by kernel_rfl) (zeroNodes _) ?_))
      refine hcall.mono ?_
      rintro e w4 ⟨rfl, hu, hgr⟩
      have HA4 := Lib.hid (HAA.out.use hu hgr)
      clear hu hgr hcall
      go_wp2
      go_roundw
      case rel => exact ⟨1, by omega, by go_num, by go_num, rfl, HA4.out⟩
      case measure => simp [intOf]
    | 1, hk =>
      have HY2 : Hid (∀ W, Below S w W → NodesAt W gy [vT 121]) := Lib.hid fun W hb => HNY.out.below hb hgy
      have HG2 : Hid (gy < S) := Lib.hid hgy
      have HNS : Hid (S < wr.heap.size) := Lib.hid (by have := HAP.out.uz.lt; omega)
      have c0 : wr.cell? ⟨gt, 5, none⟩ = (vT 120).cells[0]? := HT.out 1 (vT 120) rfl 0 (by omega)
      have c1 : wr.cell? ⟨gt, 6, none⟩ = (vT 120).cells[1]? := HT.out 1 (vT 120) rfl 1 (by omega)
      have c2 : wr.cell? ⟨gt, 7, none⟩ = (vT 120).cells[2]? := HT.out 1 (vT 120) rfl 2 (by omega)
      have c3 : wr.cell? ⟨gt, 8, none⟩ = (vT 120).cells[3]? := HT.out 1 (vT 120) rfl 3 (by omega)
      have c4 : wr.cell? ⟨gt, 9, none⟩ = (vT 120).cells[4]? := HT.out 1 (vT 120) rfl 4 (by omega)
      simp only [Nd.cells, vT, List.getElem?_cons_succ, List.getElem?_cons_zero] at c0 c1 c2 c3 c4
      have hal := alloc_far' wr (.cells #[.int .i64 4, .int .i64 2, .string ⟨#[120]⟩, .string ⟨#[]⟩, .int .i64 0] 51)
      have HAA := Lib.hid (HAP.out.far hal)
      have hbx := heap_alloc_new wr (.cells #[.int .i64 4, .int .i64 2, .string ⟨#[120]⟩, .string ⟨#[]⟩, .int .i64 0] 51)
      have hNb := lt_of_heap hbx
      obtain ⟨kvs, hmk, hkk⟩ := HAA.out.se
      have HMK := Lib.hid hmk
      have HKK := Lib.hid hkk
      have HBX := Lib.hid hbx
      have b0 := heap_cell hbx 0
      have b1 := heap_cell hbx 1
      have b2 := heap_cell hbx 2
      have hQ := HAP.out.se.lt
      clear hal hmk hkk hbx
      go_wp2_with (first | (at_lookup; first | (refine wpList_look_hit rfl 9 26 79 _ _ rfl Tryz.underlying9 Tryz.underlying79 m _ rfl HAA.out.tb ⟨#[120]⟩ rfl 0 (.slice (some ⟨gy, 0, none⟩) 1 cy) (by kernel_rfl) ?_) | (refine wpList_look1_miss rfl 9 4 75 _ _ rfl Tryz.underlying9 Tryz.underlying75 Q _ rfl HMK.out ⟨#[120]⟩ rfl (.bool false) ((HKK.out ⟨#[120]⟩).2 (by decide +kernel)) (zeroBool _) ?_)) | (at_mapUpdate; go_loud (refine wpList_put_any rfl 9 4 75 _ _ _ rfl Tryz.underlying9 Tryz.underlying75 Q _ rfl HMK.out ⟨#[120]⟩ rfl _ rfl ?_)))
      intro w4 hm4 hgr
      have hse : SetS w4 Q (apL 2) := by
        have := SetS.put HKK.out hm4
        rwa [show apL 1 ++ [(⟨#[120]⟩ : ByteArray).toList] = apL 2 by decide +kernel] at this
      have hbx4 := (hgr.block _ hNb (fun e => by have := Option.some.inj e; omega)).trans HBX.out
      have HA4 := Lib.hid (HAA.out.see hse hgr)
      have HB4 := Lib.hid hbx4
      clear hm4 hgr hse hbx4 HAA HMK HKK HBX b0 b1 b2
      go_wp2_with fail
      generalize hNB : wr.heap.size = NB at *
      refine inv_region [[], [0], [], [2], [0, 1, 2, 3], [0, 1, 2, 3, 4], [0, 1, 2, 3, 4, 5], [0, 1, 2, 3, 4, 5], [0, 1, 2, 3, 4, 5, 6, 7], [0, 1, 2, 3, 4, 5, 6, 7, 8], [0, 1, 2, 3, 4, 5, 6, 7, 8, 9], [0, 1, 2, 3, 4, 5, 6, 7, 8, 9, 10], [0, 1, 2, 3, 4, 5, 6, 7, 8, 9, 10, 11], [0, 1, 2, 3, 4, 5, 6, 7, 8, 9, 10, 11, 12]] (fun _ L W => W.heap[NB]? = some (.cells #[.int .i64 4, .int .i64 2, .string ⟨#[120]⟩, .string ⟨#[]⟩, .int .i64 0] 51 (0, 0)) ∧ Ap S Q m (tab2 (.slice (some ⟨gy, 0, none⟩) 1 cy) (.slice (some ⟨gx, 0, none⟩) 1 cx) 2) w (bif L 8 then apV 2 else apV 1) (apL 2) W) ?_
      apply j_con
      · intro x; go_simp; done
      · intro x L W R hJ h1 h2 h3 hR
        unfold addAt
        go_simp
        simp only [addUpon]
        exact hR _ hJ
      simp only [Act.put, List.setIfInBounds_toArray, List.set_cons_zero, List.set_cons_succ]
      apply j_con
      · intro x; go_simp; done
      · intro x L W R hJ h1 h2 h3 hR
        have hby := HY2.out W hJ.2.bel
        have hcl := treeSortOf_leaf 4 2 gy 1 cy W (by simp) (by decide) (hby 0 (vT 121) rfl 0 (by omega)) (hby 0 (vT 121) rfl 1 (by omega))
        rw [show lsF 4 2 = 2 by decide] at hcl
        unfold addAt
        go_simp
        simp only [addUpon]
        refine hcl.mono ?_
        rintro e w' ⟨rfl, rfl⟩
        exact ⟨_, rfl, hR _ hJ⟩
      simp only [Act.put, List.setIfInBounds_toArray, List.set_cons_zero, List.set_cons_succ]
      apply j_con
      · intro x; go_simp; done
      · intro x L W R hJ h1 h2 h3 hR
        unfold addAt
        go_simp
        simp only [addUpon]
        exact hR _ hJ
      simp only [Act.put, List.setIfInBounds_toArray, List.set_cons_zero, List.set_cons_succ]
      apply j_con
      · intro x; go_simp; done
      · intro x L W R hJ h1 h2 h3 hR
        have b1 := heap_cell hJ.1 1
        unfold addAt
        go_simp
        simp only [addUpon]
        exact hR _ hJ
      simp only [Act.put, List.setIfInBounds_toArray, List.set_cons_zero, List.set_cons_succ]
      apply j_con
      · intro x; go_simp; done
      · intro x L W R hJ h1 h2 h3 hR
        unfold addAt
        go_simp
        simp only [addUpon]
        exact hR _ hJ
      simp only [Act.put, List.setIfInBounds_toArray, List.set_cons_zero, List.set_cons_succ]
      apply j_con
      · intro x; go_simp; done
      · intro x L W R hJ h1 h2 h3 hR
        unfold addAt
        go_simp
        simp only [addUpon]
        exact hR _ hJ
      simp only [Act.put, List.setIfInBounds_toArray, List.set_cons_zero, List.set_cons_succ]
      apply j_con
      · intro x; go_simp; done
      · intro x L W R hJ h1 h2 h3 hR
        unfold addAt
        go_simp
        simp only [addUpon]
        exact hR _ hJ
      simp only [Act.put, List.setIfInBounds_toArray, List.set_cons_zero, List.set_cons_succ]
      apply j_con
      · intro x; go_simp; done
      · intro x L W R hJ h1 h2 h3 hR
        unfold addAt
        go_simp
        simp only [addUpon]
        exact hR _ hJ
      simp only [Act.put, List.setIfInBounds_toArray, List.set_cons_zero, List.set_cons_succ]
      apply j_con
      · intro x; go_simp; done
      · intro x L W R hJ h1 h2 h3 hR
        have l8 : L 8 = false := h2
        have hJ2 := hJ.2
        rw [l8] at hJ2
        have hcl := usesTerm_any S (apV 1) gy cy [vT 121] W hJ2.uz (by decide) (Nat.lt_of_lt_of_le HG2.out (by have := hJ2.uz.lt; omega)) (by have := HG2.out; omega) (HY2.out W hJ2.bel) (by intro x hx; obtain rfl := List.mem_singleton.1 hx; show ¬ (4 : Int) = 5; decide)
        rw [show usF [vT 121] true (apV 1) = (true, apV 2) by kernel_rfl] at hcl
        unfold addAt
        go_simp
        simp only [addUpon]
        refine hcl.mono ?_
        rintro e w' ⟨rfl, hu, hgr⟩
        exact ⟨_, rfl, hR _ ⟨(hgr.block _ (lt_of_heap hJ.1) (fun e => by have := Option.some.inj e; have := hJ2.uz.lt; have := HNS.out; omega)).trans hJ.1, hJ2.use hu hgr⟩⟩
      simp only [Act.put, List.setIfInBounds_toArray, List.set_cons_zero, List.set_cons_succ]
      apply j_con
      · intro x; go_simp; done
      · intro x L W R hJ h1 h2 h3 hR
        unfold addAt
        go_simp
        simp only [addUpon]
        exact hR _ hJ
      simp only [Act.put, List.setIfInBounds_toArray, List.set_cons_zero, List.set_cons_succ]
      apply j_con
      · intro x; go_simp; done
      · intro x L W R hJ h1 h2 h3 hR
        unfold addAt
        go_simp
        simp only [addUpon]
        exact hR _ hJ
      simp only [Act.put, List.setIfInBounds_toArray, List.set_cons_zero, List.set_cons_succ]
      apply j_con
      · intro x; go_simp; done
      · intro x L W R hJ h1 h2 h3 hR
        unfold addAt
        go_simp
        simp only [addUpon]
        exact hR _ hJ
      simp only [Act.put, List.setIfInBounds_toArray, List.set_cons_zero, List.set_cons_succ]
      apply j_con
      · intro x; go_simp; done
      · intro x L W R hJ h1 h2 h3 hR
        unfold addAt
        go_simp
        simp only [addUpon]
        exact hR _ hJ
      simp only [Act.put, List.setIfInBounds_toArray, List.set_cons_zero, List.set_cons_succ]
      apply j_con
      · intro x; go_simp; done
      · intro x L W R hJ h1 h2 h3 hR
        unfold addAt
        go_simp
        simp only [addUpon]
        exact hR _ hJ
      simp only [Act.put, List.setIfInBounds_toArray, List.set_cons_zero, List.set_cons_succ]
      refine j_nil (by kernel_rfl) (by kernel_rfl) ⟨HB4.out, ?_⟩ ?_
      · exact HA4.out.drew
      · intro x L W hJ hL
        have l8 : L 8 = true := hL 8 (by simp)
        have hJ2 := hJ.2
        rw [l8] at hJ2
        have HJ := Lib.hid hJ2
        clear hJ hJ2
        go_wp2
        go_roundw
        case rel => exact ⟨2, by omega, by go_num, by go_num, rfl, HJ.out⟩
        case measure => simp [intOf]
    | 2, hk =>
      have HY2 : Hid (∀ W, Below S w W → NodesAt W gx [vT 120]) := Lib.hid fun W hb => HNX.out.below hb hgx
      have HG2 : Hid (gx < S) := Lib.hid hgx
      have HNS : Hid (S < wr.heap.size) := Lib.hid (by have := HAP.out.uz.lt; omega)
      have c0 : wr.cell? ⟨gt, 10, none⟩ = (vT 121).cells[0]? := HT.out 2 (vT 121) rfl 0 (by omega)
      have c1 : wr.cell? ⟨gt, 11, none⟩ = (vT 121).cells[1]? := HT.out 2 (vT 121) rfl 1 (by omega)
      have c2 : wr.cell? ⟨gt, 12, none⟩ = (vT 121).cells[2]? := HT.out 2 (vT 121) rfl 2 (by omega)
      have c3 : wr.cell? ⟨gt, 13, none⟩ = (vT 121).cells[3]? := HT.out 2 (vT 121) rfl 3 (by omega)
      have c4 : wr.cell? ⟨gt, 14, none⟩ = (vT 121).cells[4]? := HT.out 2 (vT 121) rfl 4 (by omega)
      simp only [Nd.cells, vT, List.getElem?_cons_succ, List.getElem?_cons_zero] at c0 c1 c2 c3 c4
      have hal := alloc_far' wr (.cells #[.int .i64 4, .int .i64 2, .string ⟨#[121]⟩, .string ⟨#[]⟩, .int .i64 0] 51)
      have HAA := Lib.hid (HAP.out.far hal)
      have hbx := heap_alloc_new wr (.cells #[.int .i64 4, .int .i64 2, .string ⟨#[121]⟩, .string ⟨#[]⟩, .int .i64 0] 51)
      have hNb := lt_of_heap hbx
      obtain ⟨kvs, hmk, hkk⟩ := HAA.out.se
      have HMK := Lib.hid hmk
      have HKK := Lib.hid hkk
      have HBX := Lib.hid hbx
      have b0 := heap_cell hbx 0
      have b1 := heap_cell hbx 1
      have b2 := heap_cell hbx 2
      have hQ := HAP.out.se.lt
      clear hal hmk hkk hbx
      go_wp2_with (first | (at_lookup; first | (refine wpList_look_hit rfl 9 26 79 _ _ rfl Tryz.underlying9 Tryz.underlying79 m _ rfl HAA.out.tb ⟨#[121]⟩ rfl 1 (.slice (some ⟨gx, 0, none⟩) 1 cx) (by kernel_rfl) ?_) | (refine wpList_look1_miss rfl 9 4 75 _ _ rfl Tryz.underlying9 Tryz.underlying75 Q _ rfl HMK.out ⟨#[121]⟩ rfl (.bool false) ((HKK.out ⟨#[121]⟩).2 (by decide +kernel)) (zeroBool _) ?_)) | (at_mapUpdate; go_loud (refine wpList_put_any rfl 9 4 75 _ _ _ rfl Tryz.underlying9 Tryz.underlying75 Q _ rfl HMK.out ⟨#[121]⟩ rfl _ rfl ?_)))
      intro w4 hm4 hgr
      have hse : SetS w4 Q (apL 3) := by
        have := SetS.put HKK.out hm4
        rwa [show apL 2 ++ [(⟨#[121]⟩ : ByteArray).toList] = apL 3 by decide +kernel] at this
      have hbx4 := (hgr.block _ hNb (fun e => by have := Option.some.inj e; omega)).trans HBX.out
      have HA4 := Lib.hid (HAA.out.see hse hgr)
      have HB4 := Lib.hid hbx4
      clear hm4 hgr hse hbx4 HAA HMK HKK HBX b0 b1 b2
      go_wp2_with fail
      generalize hNB : wr.heap.size = NB at *
      refine inv_region [[], [0], [], [2], [0, 1, 2, 3], [0, 1, 2, 3, 4], [0, 1, 2, 3, 4, 5], [0, 1, 2, 3, 4, 5], [0, 1, 2, 3, 4, 5, 6, 7], [0, 1, 2, 3, 4, 5, 6, 7, 8], [0, 1, 2, 3, 4, 5, 6, 7, 8, 9], [0, 1, 2, 3, 4, 5, 6, 7, 8, 9, 10], [0, 1, 2, 3, 4, 5, 6, 7, 8, 9, 10, 11], [0, 1, 2, 3, 4, 5, 6, 7, 8, 9, 10, 11, 12]] (fun _ L W => W.heap[NB]? = some (.cells #[.int .i64 4, .int .i64 2, .string ⟨#[121]⟩, .string ⟨#[]⟩, .int .i64 0] 51 (0, 0)) ∧ Ap S Q m (tab2 (.slice (some ⟨gy, 0, none⟩) 1 cy) (.slice (some ⟨gx, 0, none⟩) 1 cx) 2) w (bif L 8 then apV 3 else apV 2) (apL 3) W) ?_
      apply j_con
      · intro x; go_simp; done
      · intro x L W R hJ h1 h2 h3 hR
        unfold addAt
        go_simp
        simp only [addUpon]
        exact hR _ hJ
      simp only [Act.put, List.setIfInBounds_toArray, List.set_cons_zero, List.set_cons_succ]
      apply j_con
      · intro x; go_simp; done
      · intro x L W R hJ h1 h2 h3 hR
        have hby := HY2.out W hJ.2.bel
        have hcl := treeSortOf_leaf 4 2 gx 1 cx W (by simp) (by decide) (hby 0 (vT 120) rfl 0 (by omega)) (hby 0 (vT 120) rfl 1 (by omega))
        rw [show lsF 4 2 = 2 by decide] at hcl
        unfold addAt
        go_simp
        simp only [addUpon]
        refine hcl.mono ?_
        rintro e w' ⟨rfl, rfl⟩
        exact ⟨_, rfl, hR _ hJ⟩
      simp only [Act.put, List.setIfInBounds_toArray, List.set_cons_zero, List.set_cons_succ]
      apply j_con
      · intro x; go_simp; done
      · intro x L W R hJ h1 h2 h3 hR
        unfold addAt
        go_simp
        simp only [addUpon]
        exact hR _ hJ
      simp only [Act.put, List.setIfInBounds_toArray, List.set_cons_zero, List.set_cons_succ]
      apply j_con
      · intro x; go_simp; done
      · intro x L W R hJ h1 h2 h3 hR
        have b1 := heap_cell hJ.1 1
        unfold addAt
        go_simp
        simp only [addUpon]
        exact hR _ hJ
      simp only [Act.put, List.setIfInBounds_toArray, List.set_cons_zero, List.set_cons_succ]
      apply j_con
      · intro x; go_simp; done
      · intro x L W R hJ h1 h2 h3 hR
        unfold addAt
        go_simp
        simp only [addUpon]
        exact hR _ hJ
      simp only [Act.put, List.setIfInBounds_toArray, List.set_cons_zero, List.set_cons_succ]
      apply j_con
      · intro x; go_simp; done
      · intro x L W R hJ h1 h2 h3 hR
        unfold addAt
        go_simp
        simp only [addUpon]
        exact hR _ hJ
      simp only [Act.put, List.setIfInBounds_toArray, List.set_cons_zero, List.set_cons_succ]
      apply j_con
      · intro x; go_simp; done
      · intro x L W R hJ h1 h2 h3 hR
        unfold addAt
        go_simp
        simp only [addUpon]
        exact hR _ hJ
      simp only [Act.put, List.setIfInBounds_toArray, List.set_cons_zero, List.set_cons_succ]
      apply j_con
      · intro x; go_simp; done
      · intro x L W R hJ h1 h2 h3 hR
        unfold addAt
        go_simp
        simp only [addUpon]
        exact hR _ hJ
      simp only [Act.put, List.setIfInBounds_toArray, List.set_cons_zero, List.set_cons_succ]
      apply j_con
      · intro x; go_simp; done
      · intro x L W R hJ h1 h2 h3 hR
        have l8 : L 8 = false := h2
        have hJ2 := hJ.2
        rw [l8] at hJ2
        have hcl := usesTerm_any S (apV 2) gx cx [vT 120] W hJ2.uz (by decide) (Nat.lt_of_lt_of_le HG2.out (by have := hJ2.uz.lt; omega)) (by have := HG2.out; omega) (HY2.out W hJ2.bel) (by intro x hx; obtain rfl := List.mem_singleton.1 hx; show ¬ (4 : Int) = 5; decide)
        rw [show usF [vT 120] true (apV 2) = (true, apV 3) by kernel_rfl] at hcl
        unfold addAt
        go_simp
        simp only [addUpon]
        refine hcl.mono ?_
        rintro e w' ⟨rfl, hu, hgr⟩
        exact ⟨_, rfl, hR _ ⟨(hgr.block _ (lt_of_heap hJ.1) (fun e => by have := Option.some.inj e; have := hJ2.uz.lt; have := HNS.out; omega)).trans hJ.1, hJ2.use hu hgr⟩⟩
      simp only [Act.put, List.setIfInBounds_toArray, List.set_cons_zero, List.set_cons_succ]
      apply j_con
      · intro x; go_simp; done
      · intro x L W R hJ h1 h2 h3 hR
        unfold addAt
        go_simp
        simp only [addUpon]
        exact hR _ hJ
      simp only [Act.put, List.setIfInBounds_toArray, List.set_cons_zero, List.set_cons_succ]
      apply j_con
      · intro x; go_simp; done
      · intro x L W R hJ h1 h2 h3 hR
        unfold addAt
        go_simp
        simp only [addUpon]
        exact hR _ hJ
      simp only [Act.put, List.setIfInBounds_toArray, List.set_cons_zero, List.set_cons_succ]
      apply j_con
      · intro x; go_simp; done
      · intro x L W R hJ h1 h2 h3 hR
        unfold addAt
        go_simp
        simp only [addUpon]
        exact hR _ hJ
      simp only [Act.put, List.setIfInBounds_toArray, List.set_cons_zero, List.set_cons_succ]
      apply j_con
      · intro x; go_simp; done
      · intro x L W R hJ h1 h2 h3 hR
        unfold addAt
        go_simp
        simp only [addUpon]
        exact hR _ hJ
      simp only [Act.put, List.setIfInBounds_toArray, List.set_cons_zero, List.set_cons_succ]
      apply j_con
      · intro x; go_simp; done
      · intro x L W R hJ h1 h2 h3 hR
        unfold addAt
        go_simp
        simp only [addUpon]
        exact hR _ hJ
      simp only [Act.put, List.setIfInBounds_toArray, List.set_cons_zero, List.set_cons_succ]
      refine j_nil (by kernel_rfl) (by kernel_rfl) ⟨HB4.out, ?_⟩ ?_
      · exact HA4.out.drew
      · intro x L W hJ hL
        have l8 : L 8 = true := hL 8 (by simp)
        have hJ2 := hJ.2
        rw [l8] at hJ2
        have HJ := Lib.hid hJ2
        clear hJ hJ2
        go_wp2
        go_roundw
        case rel => exact ⟨3, by omega, by go_num, by go_num, rfl, HJ.out⟩
        case measure => simp [intOf]
    | 3, hk =>
      have hbb := HAP.out.bel
      have hql := HAP.out.se.lt
      have HQL : Hid (S ≤ wr.heap.size) := Lib.hid (by have := HAP.out.uz.lt; omega)
      go_wp2_with (at_make; refine wpList_make_own _ rfl _ _ 26 rfl S 51 i0 _ 5 Tryz.underlying26 hi hz0 hz1 .i64 .i64 3 3 rfl rfl rfl (by rw [hz2]; decide) (by decide) HQL.out ?_)
      intro w5 hown hgr
      have HB5 := Lib.hid (hbb.grown hgr HQL.out (fun k e => by cases e))
      have HO5 := Lib.hid hown
      clear hown hgr hbb hql HAP HT HY HX
      go_wp2_with fail
      go_loopw [85, 14] (fun iv ov wx => ∃ k : Nat, k ≤ 3 ∧ iv = .int .i64 k ∧ wx.ownsRow S 51 5 ov k (flatN ((aT 121 120).take k)) ∧ Below S w wx) (fun iv _ _ => 3 - (intOf iv).toNat)
      case atStart => exact ⟨0, by omega, rfl, HO5.out, HB5.out⟩
      case round =>
        obtain ⟨k, hk, rfl, ho, hb⟩ := hrel
        clear HO5 HB5
        have HO := Lib.hid ho
        have HB := Lib.hid hb
        have HT := Lib.hid (HNT.out.below hb hgt)
        have HFY := Lib.hid (nodes_flat (HNY.out.below hb hgy))
        have HFX := Lib.hid (nodes_flat (HNX.out.below hb hgx))
        have hmt : MapS wr m (tab2 (.slice (some ⟨gy, 0, none⟩) 1 cy) (.slice (some ⟨gx, 0, none⟩) 1 cx) 2) := HMT.out.but (hb.block _ (by have := HMT.out.lt; rw [HS.out] at this; exact this))
        have hsl : S ≤ wr.heap.size := by have := hb.size; rw [HS.out] at this; exact this
        have HMX := Lib.hid hmt
        have HSL := Lib.hid hsl
        clear ho hb hmt hsl
        match k, hk with
        | 0, hk =>
          have c0 : wr.cell? ⟨gt, 0, none⟩ = (⟨14, 0, ⟨#[]⟩, ⟨#[]⟩, 2⟩ : Nd).cells[0]? := HT.out 0 (⟨14, 0, ⟨#[]⟩, ⟨#[]⟩, 2⟩ : Nd) rfl 0 (by omega)
          have c1 : wr.cell? ⟨gt, 1, none⟩ = (⟨14, 0, ⟨#[]⟩, ⟨#[]⟩, 2⟩ : Nd).cells[1]? := HT.out 0 (⟨14, 0, ⟨#[]⟩, ⟨#[]⟩, 2⟩ : Nd) rfl 1 (by omega)
          have c2 : wr.cell? ⟨gt, 2, none⟩ = (⟨14, 0, ⟨#[]⟩, ⟨#[]⟩, 2⟩ : Nd).cells[2]? := HT.out 0 (⟨14, 0, ⟨#[]⟩, ⟨#[]⟩, 2⟩ : Nd) rfl 2 (by omega)
          have c3 : wr.cell? ⟨gt, 3, none⟩ = (⟨14, 0, ⟨#[]⟩, ⟨#[]⟩, 2⟩ : Nd).cells[3]? := HT.out 0 (⟨14, 0, ⟨#[]⟩, ⟨#[]⟩, 2⟩ : Nd) rfl 3 (by omega)
          have c4 : wr.cell? ⟨gt, 4, none⟩ = (⟨14, 0, ⟨#[]⟩, ⟨#[]⟩, 2⟩ : Nd).cells[4]? := HT.out 0 (⟨14, 0, ⟨#[]⟩, ⟨#[]⟩, 2⟩ : Nd) rfl 4 (by omega)
          simp only [Nd.cells, List.getElem?_cons_succ, List.getElem?_cons_zero] at c0 c1 c2 c3 c4
          have hal := alloc_far' wr (.cells #[.int .i64 14, .int .i64 0, .string ⟨#[]⟩, .string ⟨#[]⟩, .int .i64 2] 51)
          have HMA := Lib.hid (HMX.out.far hal)
          have HBA := Lib.hid (HB.out.trans (hal.mono HSL.out))
          have hbx := heap_alloc_new wr (.cells #[.int .i64 14, .int .i64 0, .string ⟨#[]⟩, .string ⟨#[]⟩, .int .i64 2] 51)
          have q0 := heap_cell hbx 0
          have q1 := heap_cell hbx 1
          have q2 := heap_cell hbx 2
          have q3 := heap_cell hbx 3
          have q4 := heap_cell hbx 4
          clear hal hbx
          go_wp2_with (first | (at_lookup; go_loud (refine wpList_look_miss rfl 9 26 79 _ _ rfl Tryz.underlying9 Tryz.underlying79 m _ rfl HMA.out ⟨#[]⟩ rfl _ (by kernel_rfl) (zeroNodes _) ?_)) | (at_builtin; go_must (refine wpList_append_own _ rfl _ _ 26 rfl S 51 i0 _ 5 56 Tryz.underlying26 hi hz0 hz1 hz2 rfl (by decide) _ 0 _ rfl ((HO.out.alloc _).alloc _) ⟨wr.heap.size + 1, 0, none⟩ 1 1 [.int .i64 14, .int .i64 0, .string ⟨#[]⟩, .string ⟨#[]⟩, .int .i64 2] rfl rfl (World.news_of_block (cs := #[.int .i64 14, .int .i64 0, .string ⟨#[]⟩, .string ⟨#[]⟩, .int .i64 2]) (t := 51) (fr := (0, 0)) (by have := heap_alloc_new (wr.alloc (.cells #[.int .i64 14, .int .i64 0, .string ⟨#[]⟩, .string ⟨#[]⟩, .int .i64 2] 51)) (.cells #[.int .i64 14, .int .i64 0, .string ⟨#[]⟩, .string ⟨#[]⟩, .int .i64 2] 51); simpa using this)) (by simp [Value.oneCell']) (by decide) (by omega) (by simp; have := HSL.out; omega) ?_)))
          intro v' w6 hown hgr _
          have HN := Lib.hid hown
          have HG := Lib.hid ((HBA.out.alloc (by simp; have := HSL.out; omega) _).grown hgr (by simp; have := HSL.out; omega) (fun j hj => (HO.out.lt j hj).1))
          clear hown hgr
          go_wp2
          go_roundw
          case rel => exact ⟨1, by omega, by go_num, HN.out, HG.out⟩
          case measure => simp [intOf]
        | 1, hk =>
          have c0 : wr.cell? ⟨gt, 5, none⟩ = (vT 120).cells[0]? := HT.out 1 (vT 120) rfl 0 (by omega)
          have c1 : wr.cell? ⟨gt, 6, none⟩ = (vT 120).cells[1]? := HT.out 1 (vT 120) rfl 1 (by omega)
          have c2 : wr.cell? ⟨gt, 7, none⟩ = (vT 120).cells[2]? := HT.out 1 (vT 120) rfl 2 (by omega)
          have c3 : wr.cell? ⟨gt, 8, none⟩ = (vT 120).cells[3]? := HT.out 1 (vT 120) rfl 3 (by omega)
          have c4 : wr.cell? ⟨gt, 9, none⟩ = (vT 120).cells[4]? := HT.out 1 (vT 120) rfl 4 (by omega)
          simp only [Nd.cells, vT, List.getElem?_cons_succ, List.getElem?_cons_zero] at c0 c1 c2 c3 c4
          have hal := alloc_far' wr (.cells #[.int .i64 4, .int .i64 2, .string ⟨#[120]⟩, .string ⟨#[]⟩, .int .i64 0] 51)
          have HMA := Lib.hid (HMX.out.far hal)
          have HBA := Lib.hid (HB.out.trans (hal.mono HSL.out))
          have HFA := Lib.hid (nodes_flat (HNY.out.below HBA.out hgy))
          have hbx := heap_alloc_new wr (.cells #[.int .i64 4, .int .i64 2, .string ⟨#[120]⟩, .string ⟨#[]⟩, .int .i64 0] 51)
          have q0 := heap_cell hbx 0
          have q2 := heap_cell hbx 2
          clear hal hbx
          go_wp2_with (first | (at_lookup; go_loud (refine wpList_look_hit rfl 9 26 79 _ _ rfl Tryz.underlying9 Tryz.underlying79 m _ rfl HMA.out ⟨#[120]⟩ rfl 0 (.slice (some ⟨gy, 0, none⟩) 1 cy) (by kernel_rfl) ?_)) | (at_builtin; go_must (refine wpList_append_own _ rfl _ _ 26 rfl S 51 i0 _ 5 56 Tryz.underlying26 hi hz0 hz1 hz2 rfl (by decide) _ 1 _ rfl (HO.out.alloc _) ⟨gy, 0, none⟩ 1 cy (flatN [vT 121]) rfl rfl (fun q u hq => by rw [add_at]; exact HFA.out q u hq) (nd_one _) (by decide) (by omega) (by simp; have := HSL.out; omega) ?_)))
          intro v' w6 hown hgr _
          have HN := Lib.hid hown
          have HG := Lib.hid (HBA.out.grown hgr (by simp; have := HSL.out; omega) (fun j hj => (HO.out.lt j hj).1))
          clear hown hgr
          go_wp2
          go_roundw
          case rel => exact ⟨2, by omega, by go_num, HN.out, HG.out⟩
          case measure => simp [intOf]
        | 2, hk =>
          have c0 : wr.cell? ⟨gt, 10, none⟩ = (vT 121).cells[0]? := HT.out 2 (vT 121) rfl 0 (by omega)
          have c1 : wr.cell? ⟨gt, 11, none⟩ = (vT 121).cells[1]? := HT.out 2 (vT 121) rfl 1 (by omega)
          have c2 : wr.cell? ⟨gt, 12, none⟩ = (vT 121).cells[2]? := HT.out 2 (vT 121) rfl 2 (by omega)
          have c3 : wr.cell? ⟨gt, 13, none⟩ = (vT 121).cells[3]? := HT.out 2 (vT 121) rfl 3 (by omega)
          have c4 : wr.cell? ⟨gt, 14, none⟩ = (vT 121).cells[4]? := HT.out 2 (vT 121) rfl 4 (by omega)
          simp only [Nd.cells, vT, List.getElem?_cons_succ, List.getElem?_cons_zero] at c0 c1 c2 c3 c4
          have hal := alloc_far' wr (.cells #[.int .i64 4, .int .i64 2, .string ⟨#[121]⟩, .string ⟨#[]⟩, .int .i64 0] 51)
          have HMA := Lib.hid (HMX.out.far hal)
          have HBA := Lib.hid (HB.out.trans (hal.mono HSL.out))
          have HFA := Lib.hid (nodes_flat (HNX.out.below HBA.out hgx))
          have hbx := heap_alloc_new wr (.cells #[.int .i64 4, .int .i64 2, .string ⟨#[121]⟩, .string ⟨#[]⟩, .int .i64 0] 51)
          have q0 := heap_cell hbx 0
          have q2 := heap_cell hbx 2
          clear hal hbx
          go_wp2_with (first | (at_lookup; go_loud (refine wpList_look_hit rfl 9 26 79 _ _ rfl Tryz.underlying9 Tryz.underlying79 m _ rfl HMA.out ⟨#[121]⟩ rfl 1 (.slice (some ⟨gx, 0, none⟩) 1 cx) (by kernel_rfl) ?_)) | (at_builtin; go_must (refine wpList_append_own _ rfl _ _ 26 rfl S 51 i0 _ 5 56 Tryz.underlying26 hi hz0 hz1 hz2 rfl (by decide) _ 2 _ rfl (HO.out.alloc _) ⟨gx, 0, none⟩ 1 cx (flatN [vT 120]) rfl rfl (fun q u hq => by rw [add_at]; exact HFA.out q u hq) (nd_one _) (by decide) (by omega) (by simp; have := HSL.out; omega) ?_)))
          intro v' w6 hown hgr _
          have HN := Lib.hid hown
          have HG := Lib.hid (HBA.out.grown hgr (by simp; have := HSL.out; omega) (fun j hj => (HO.out.lt j hj).1))
          clear hown hgr
          go_wp2
          go_roundw
          case rel => exact ⟨3, by omega, by go_num, HN.out, HG.out⟩
          case measure => simp [intOf]
        | 3, hk =>
          obtain ⟨O, cO, hv, hlo⟩ : ∃ O c, u14 = .slice (some ⟨O, 0, none⟩) 3 c ∧ NodesAt wr O (aT 121 120) ∧ O < wr.heap.size := by
            have h := HO.out
            obtain ⟨_, h1 | ⟨g, cap, cur, hv, _⟩⟩ := id h
            · exact absurd h1.2 (by omega)
            · subst hv
              refine ⟨g, cap, rfl, flat_nodes fun j hj => ?_, (h.lt g rfl).2⟩
              have := h.cells (g := g) rfl j _ (List.getElem?_eq_getElem (by rw [flatN_len]; exact hj))
              rw [add_at] at this
              rw [this, List.getElem?_eq_getElem (by rw [flatN_len]; exact hj)]; rfl
          subst hv
          have hft := fits_any O cO (aT 121 120) [3, 2, 3] wr (by decide) hlo.2 hlo.1 (by kernel_rfl) rfl (by decide)
          have HLO := Lib.hid hlo
          clear hlo HO HFY HFX HT HMX
          go_wp2_with fail
          refine hft.mono ?_
          rintro e w6 ⟨rfl, hb6⟩
          have HN6 := Lib.hid (HLO.out.1.below hb6 HLO.out.2)
          have HB6 := Lib.hid (HB.out.trans (hb6.mono HSL.out))
          have HL6 := Lib.hid (Nat.lt_of_lt_of_le HLO.out.2 hb6.size)
          clear hft hb6
          go_wp2
          go_ret2
          exact ⟨O, cO, rfl, HN6.out, HL6.out, by rw [HS.out]; exact HB6.out⟩
end
end Go.Proofs.YthefknoicelhaaaGreatDoor.Se

/- tree.Uses where no function is applied. -/
import Derived.Test.YthefknoicelhaaaGreatDoorFZH
import Derived.Test.YthefknoicelhaaaGreatDoorFUS
namespace Go.Proofs.YthefknoicelhaaaGreatDoor.Se
open Go.RowKit Nmx
open Go.MapKept

/-- a collection of uses: the two maps and the box that holds them -/
structure Uz (u : Nat) (V : List (ByteArray × Int)) (F : List (ByteArray × List Int)) (w : World) : Prop where
  bx : w.heap[u + 2]? = some (.cells #[.map (some u), .map (some (u + 1))] 94 (0, 0))
  mv : MapS w u (asI V)
  mf : ∃ kvs, MapS w (u + 1) kvs ∧ FRel w kvs F
theorem Uz.lt {u : Nat} {V : List (ByteArray × Int)} {F : List (ByteArray × List Int)} {w : World} (h : Uz u V F w) : u + 2 < w.heap.size := lt_of_heap h.bx
theorem Uz.far {u : Nat} {V : List (ByteArray × Int)} {F : List (ByteArray × List Int)} {w w' : World} (h : Uz u V F w) (hb : Below w.heap.size w w') : Uz u V F w' :=
  ⟨(hb.block _ h.lt).trans h.bx, h.mv.far hb, let ⟨k, h1, h2⟩ := h.mf; ⟨k, h1.far hb, h2.mono fun _ _ h => h.far hb⟩⟩
theorem Uz.grown {u r : Nat} {V : List (ByteArray × Int)} {w w' : World} (h : Uz u V [] w) (hg : w.grownBy w' (some r)) (h0 : r ≠ u) (h1 : r ≠ u + 1) (h2 : r ≠ u + 2) : Uz u V [] w' := by
  have hl := h.lt
  refine ⟨(hg.block _ hl (fun e => h2 (Option.some.inj e).symm)).trans h.bx, h.mv.but (hg.block _ (by omega) (fun e => h0 (Option.some.inj e).symm)), ?_⟩
  obtain ⟨k, q1, q2⟩ := h.mf
  refine ⟨k, q1.but (hg.block _ (by omega) (fun e => h1 (Option.some.inj e).symm)), ?_⟩
  cases k with
  | nil => exact trivial
  | cons p k => exact q2.elim
/-- does the use of a name as a variable agree with what was seen -/
def uvF (V : List (ByteArray × Int)) (F : List (ByteArray × List Int)) (name : ByteArray) (sort : Int) : Bool := (lookA name F).isNone && (match lookA name V with | none => true | some s => s == sort)
theorem Uz.put {u : Nat} {V : List (ByteArray × Int)} {w w' : World} {s : ByteArray} {v : Int} (h : Uz u V [] w) (hm : MapS w' u (putS s (.int .i64 v) (asI V))) (hg : w.grownBy w' (some u)) : Uz u (putA s v V) [] w' := by
  have hl := h.lt
  refine ⟨(hg.block _ hl (fun e => by have := Option.some.inj e; omega)).trans h.bx, by rw [putI] at hm; exact hm, ?_⟩
  obtain ⟨k, q1, q2⟩ := h.mf
  refine ⟨k, q1.but (hg.block _ (by omega) (fun e => by have := Option.some.inj e; omega)), ?_⟩
  cases k with
  | nil => exact trivial
  | cons p k => exact q2.elim
section
set_option maxRecDepth 100000
set_option maxHeartbeats 4000000
theorem newUses_any (w : World) : Calls Tryz.prog 30 #[] w fun e w' => e = .returned (.pointer (some ⟨w.heap.size + 2, 0, none⟩)) ∧ Uz w.heap.size [] [] w' ∧ Below w.heap.size w w' := by
  have hm1 := @run_makeMap0 Tryz.prog 91
  have hm2 := @run_makeMap0 Tryz.prog 92
  have hu : Uz w.heap.size [] [] (((w.alloc (.map #[] 0)).alloc (.map #[] 0)).alloc (.cells #[.map (some w.heap.size), .map (some (w.heap.size + 1))] 94)) ∧ Below w.heap.size w (((w.alloc (.map #[] 0)).alloc (.map #[] 0)).alloc (.cells #[.map (some w.heap.size), .map (some (w.heap.size + 1))] 94)) := by
    have h1 := alloc_far' w (.map #[] 0)
    have b0 := MapS.made w
    have e1 : (w.alloc (.map #[] 0)).heap.size = w.heap.size + 1 := by simp
    generalize w.alloc (.map #[] 0) = u1 at *
    have h2 := alloc_far' u1 (.map #[] 0)
    have b1 := MapS.made u1
    have e2 : (u1.alloc (.map #[] 0)).heap.size = w.heap.size + 1 + 1 := by simp; omega
    rw [e1] at b1
    generalize u1.alloc (.map #[] 0) = u2 at *
    have h3 := alloc_far' u2 (.cells #[.map (some w.heap.size), .map (some (w.heap.size + 1))] 94)
    have b2 := heap_alloc_new u2 (.cells #[.map (some w.heap.size), .map (some (w.heap.size + 1))] 94)
    rw [e2] at b2
    exact ⟨⟨b2, (b0.far h2).far h3, ⟨[], b1.far h3, trivial⟩⟩, h1.trans ((h2.mono (by omega)).trans (h3.mono (by omega)))⟩
  have HU := Lib.hid hu
  clear hu
  go_enter Tryz.func30, Tryz.ntmps30
  go_wp2
  go_ret
  exact ⟨rfl, HU.out.1, HU.out.2⟩
theorem usesVar_any (u : Nat) (V : List (ByteArray × Int)) (name : ByteArray) (sort : Int) (w : World) (h : Uz u V [] w) :
    Calls Tryz.prog 82 #[.pointer (some ⟨u + 2, 0, none⟩), .string name, .int .i64 sort] w fun e w' => e = .returned (.bool (uvF V [] name sort)) ∧ Uz u (putA name sort V) [] w' ∧ w.grownBy w' (some u) := by
  have HU := Lib.hid h
  have c0 := heap_cell h.bx 0
  have c1 := heap_cell h.bx 1
  obtain ⟨kf, hkf, hrf⟩ := h.mf
  have HKF := Lib.hid hkf
  have HFF := Lib.hid (FRel.none (s := name) 0 hrf rfl)
  clear h hkf hrf
  cases hv : lookA name V with
  | none =>
    have HF := Lib.hid (findI_none 0 hv)
    have HR : Hid (uvF V [] name sort = true) := Lib.hid (by unfold uvF; rw [hv]; rfl)
    clear hv
    go_enter Tryz.func82, Tryz.ntmps82
    go_wp2_with (first | (at_lookup; first | (refine wpList_look_miss rfl 9 3 91 _ _ rfl Tryz.underlying9 Tryz.underlying91 u _ rfl HU.out.mv name rfl _ HF.out (zeroInt _) ?_) | (refine wpList_look_miss rfl 9 23 92 _ _ rfl Tryz.underlying9 Tryz.underlying92 (u + 1) _ rfl HKF.out name rfl _ HFF.out (zeroInts _) ?_)) | (at_mapUpdate; go_loud (refine wpList_put_any rfl 9 3 91 _ _ _ rfl Tryz.underlying9 Tryz.underlying91 u _ rfl HU.out.mv name rfl _ rfl ?_)))
    intro w2 hm hgr
    have HN2 := Lib.hid (HU.out.put hm hgr)
    have HG := Lib.hid hgr
    clear hm hgr
    go_wp2_with fail
    go_ret
    exact ⟨by rw [HR.out]; rfl, HN2.out, HG.out⟩
  | some v0 =>
    obtain ⟨jf, hjf⟩ := findI_some 0 hv
    have HF := Lib.hid hjf
    have HR : Hid (uvF V [] name sort = (v0 == sort)) := Lib.hid (by unfold uvF; rw [hv]; rfl)
    clear hjf hv
    go_enter Tryz.func82, Tryz.ntmps82
    go_wp2_with (first | (at_lookup; first | (refine wpList_look_hit rfl 9 3 91 _ _ rfl Tryz.underlying9 Tryz.underlying91 u _ rfl HU.out.mv name rfl jf (.int .i64 v0) HF.out ?_) | (refine wpList_look_miss rfl 9 23 92 _ _ rfl Tryz.underlying9 Tryz.underlying92 (u + 1) _ rfl HKF.out name rfl _ HFF.out (zeroInts _) ?_)) | (at_mapUpdate; go_loud (refine wpList_put_any rfl 9 3 91 _ _ _ rfl Tryz.underlying9 Tryz.underlying91 u _ rfl HU.out.mv name rfl _ rfl ?_)))
    intro w2 hm hgr
    have HN2 := Lib.hid (HU.out.put hm hgr)
    have HG := Lib.hid hgr
    clear hm hgr
    go_wp2_with fail
    go_ret
    exact ⟨by rw [HR.out]; rfl, HN2.out, HG.out⟩
/-- what a node that is no application does to the collection -/
def unV (x : Nd) (V : List (ByteArray × Int)) : List (ByteArray × Int) := if x.op = 4 then putA x.name x.sort V else V
def unF (x : Nd) (V : List (ByteArray × Int)) : Bool := if x.op = 4 then uvF V [] x.name x.sort else true
theorem usesNode_any (u : Nat) (V : List (ByteArray × Int)) (g cap n i : Nat) (x : Nd) (w : World) (h : Uz u V [] w) (hi : i < n) (hc : ∀ j, j < 5 → w.cell? ⟨g, i * 5 + j, none⟩ = x.cells[j]?) (h5 : ¬ x.op = 5) :
    Calls Tryz.prog 57 #[.pointer (some ⟨u + 2, 0, none⟩), .slice (some ⟨g, 0, none⟩) n cap, .int .i64 i] w fun e w' => e = .returned (.bool (unF x V)) ∧ Uz u (unV x V) [] w' ∧ w.grownBy w' (some u) := by
  obtain ⟨op, sort, name, num, kids⟩ := x
  have c0 := hc 0 (by omega)
  have c1 := hc 1 (by omega)
  have c2 := hc 2 (by omega)
  have c3 := hc 3 (by omega)
  have c4 := hc 4 (by omega)
  simp only [Nd.cells, List.getElem?_cons_succ, List.getElem?_cons_zero, Nat.add_zero] at c0 c1 c2 c3 c4
  have hii : (i : Int) < (n : Int) := by omega
  simp only at h5
  have hal := World.grownBy_alloc w (.cells #[.int .i64 op, .int .i64 sort, .string name, .string num, .int .i64 kids] 51) (some u)
  have hu1 := h.far (alloc_far' w (.cells #[.int .i64 op, .int .i64 sort, .string name, .string num, .int .i64 kids] 51))
  have HAL := Lib.hid hal
  have HU1 := Lib.hid hu1
  clear hc h hal hu1
  by_cases q4 : op = 4
  · subst q4
    have hcall := usesVar_any u V name sort _ HU1.out
    have HR : Hid (unF ⟨4, sort, name, num, kids⟩ V = uvF V [] name sort) := Lib.hid (if_pos rfl)
    have HV : Hid (unV ⟨4, sort, name, num, kids⟩ V = putA name sort V) := Lib.hid (if_pos rfl)
    go_enter Tryz.func57, Tryz.ntmps57
    go_wp2_with fail
    refine hcall.mono ?_
    rintro e w2 ⟨rfl, h1, h2⟩
    have H1 := Lib.hid h1
    have H2 := Lib.hid (HAL.out.trans h2)
    clear h1 h2 hcall
    go_wp2
    go_ret
    exact ⟨by rw [HR.out]; rfl, by rw [HV.out]; exact H1.out, H2.out⟩
  · have g4 : (op == 4) = false := by simp [q4]
    have g5 : (op == 5) = false := by simp [h5]
    have HR : Hid (unF ⟨op, sort, name, num, kids⟩ V = true) := Lib.hid (if_neg q4)
    have HV : Hid (unV ⟨op, sort, name, num, kids⟩ V = V) := Lib.hid (if_neg q4)
    go_enter Tryz.func57, Tryz.ntmps57
    go_wp2
    go_ret
    exact ⟨by rw [HR.out]; rfl, by rw [HV.out]; exact HU1.out, HAL.out⟩
/-- all nodes in turn -/
def usF : List Nd → Bool → List (ByteArray × Int) → Bool × List (ByteArray × Int)
  | [], a, V => (a, V)
  | x :: l, a, V => usF l (unF x V && a) (unV x V)
theorem usesTerm_any (u : Nat) (V : List (ByteArray × Int)) (g cap : Nat) (ts : List Nd) (w : World) (h : Uz u V [] w) (hn : ts.length ≤ 1000000) (hg : g < w.heap.size) (hgu : g ≠ u) (hc : NodesAt w g ts) (h5 : ∀ x ∈ ts, ¬ x.op = 5) :
    Calls Tryz.prog 31 #[.pointer (some ⟨u + 2, 0, none⟩), .slice (some ⟨g, 0, none⟩) ts.length cap] w fun e w' => e = .returned (.bool (usF ts true V).1) ∧ Uz u (usF ts true V).2 [] w' ∧ w.grownBy w' (some u) := by
  have HU := Lib.hid h
  have HC := Lib.hid hc
  have H5 := Lib.hid h5
  clear h hc h5
  go_enter Tryz.func31, Tryz.ntmps31
  go_wp2
  go_loopw [9, 5] (fun iv av wr => ∃ (k : Nat) (a : Bool) (U : List (ByteArray × Int)), k ≤ ts.length ∧ iv = .int .i64 k ∧ av = .bool a ∧ usF (ts.drop k) a U = usF ts true V ∧ Uz u U [] wr ∧ w.grownBy wr (some u)) (fun iv _ _ => ts.length - (intOf iv).toNat)
  case atStart => exact ⟨0, true, V, Nat.zero_le _, rfl, rfl, rfl, HU.out, ⟨rfl, rfl, rfl, Nat.le_refl _, fun _ _ _ => rfl⟩⟩
  case round =>
    obtain ⟨k, a, U, hk, rfl, rfl, hI, hu, hgr⟩ := hrel
    have HI := Lib.hid hI
    have HU2 := Lib.hid hu
    have HG := Lib.hid hgr
    clear hI hu hgr HU
    by_cases hlt : k < ts.length
    · have hx : ts[k]? = some ts[k] := List.getElem?_eq_getElem hlt
      have q5 := H5.out _ (List.getElem_mem hlt)
      have HST : Hid (usF (ts[k] :: ts.drop (k + 1)) a U = usF ts true V) := Lib.hid (by rw [← List.drop_eq_getElem_cons hlt]; exact HI.out)
      have hcc : ∀ j, j < 5 → wr.cell? ⟨g, k * 5 + j, none⟩ = ts[k].cells[j]? := fun j hj => (HC.out k _ hx j hj).symm ▸ World.cell?_of_block (w := w) (a := ⟨g, k * 5 + j, none⟩) (HG.out.block g hg (fun e => hgu (Option.some.inj e)))
      clear HI hx
      generalize ts[k] = x at *
      have hcall := usesNode_any u U g cap ts.length k x wr HU2.out hlt hcc q5
      have hlti : (k : Int) < (ts.length : Int) := by omega
      clear hcc q5
      go_wp2_with fail
      refine hcall.mono ?_
      rintro e w2 ⟨rfl, h1, h2⟩
      have H1 := Lib.hid h1
      have H2 := Lib.hid (HG.out.trans h2)
      clear h1 h2 hcall HU2 HG
      obtain ⟨b, hb⟩ : ∃ b, unF x U = b := ⟨_, rfl⟩
      have HB := Lib.hid hb
      rw [hb]
      clear hb
      cases b
      · go_wp2
        go_roundw
        case rel => exact ⟨k + 1, false, _, by omega, by go_num, rfl, by rw [← HST.out]; simp [usF, HB.out], H1.out, H2.out⟩
        case measure => simp [intOf]; omega
      · go_wp2
        go_roundw
        case rel => exact ⟨k + 1, a, _, by omega, by go_num, rfl, by rw [← HST.out]; simp [usF, HB.out], H1.out, H2.out⟩
        case measure => simp [intOf]; omega
    · have HR : Hid (usF ts true V = (a, U)) := Lib.hid (by rw [← HI.out, List.drop_of_length_le (by omega)]; rfl)
      clear HI
      go_wp2
      go_ret
      exact ⟨by rw [HR.out]; rfl, by rw [HR.out]; exact HU2.out, HG.out⟩
end
end Go.Proofs.YthefknoicelhaaaGreatDoor.Se

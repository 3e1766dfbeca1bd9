/- Normal at a comparison by RelLe of sort SortInt; the sanity check. -/
import Derived.Test.YtgfoljpjdmeooaaGreatDoorLL
namespace Go.Proofs.YtgfoljpjdmeooaaGreatDoor
open Go.RowKit Nmx

theorem set5_heap {w : World} {R : Nat} {y0 y1 y2 y3 y4 : Value} {t : TypeId} (h : w.heap[R]? = some (.cells #[y0, y1, y2, y3, y4] t (0, 0))) (x0 x1 x2 x3 x4 : Value) : (((((w.setCell ⟨R, 0, none⟩ x0).setCell ⟨R, 1, none⟩ x1).setCell ⟨R, 2, none⟩ x2).setCell ⟨R, 3, none⟩ x3).setCell ⟨R, 4, none⟩ x4).heap[R]? = some (.cells #[x0, x1, x2, x3, x4] t (0, 0)) := by
  have := heap_set (heap_set (heap_set (heap_set (heap_set h 0 x0) 1 x1) 2 x2) 3 x3) 4 x4
  simpa using this
theorem set5_other {w : World} {R : Nat} (x0 x1 x2 x3 x4 : Value) {g : Nat} (hg : g ≠ R) : (((((w.setCell ⟨R, 0, none⟩ x0).setCell ⟨R, 1, none⟩ x1).setCell ⟨R, 2, none⟩ x2).setCell ⟨R, 3, none⟩ x3).setCell ⟨R, 4, none⟩ x4).heap[g]? = w.heap[g]? := by
  rw [Below.heap_setCell _ _ _ _ hg, Below.heap_setCell _ _ _ _ hg, Below.heap_setCell _ _ _ _ hg, Below.heap_setCell _ _ _ _ hg, Below.heap_setCell _ _ _ _ hg]
theorem set5_below {B : Nat} {W w : World} {R : Nat} (h : Below B W w) (hR : B ≤ R) (x0 x1 x2 x3 x4 : Value) : Below B W (((((w.setCell ⟨R, 0, none⟩ x0).setCell ⟨R, 1, none⟩ x1).setCell ⟨R, 2, none⟩ x2).setCell ⟨R, 3, none⟩ x3).setCell ⟨R, 4, none⟩ x4) :=
  ((((h.setCell (show B ≤ R from hR) _).setCell (show B ≤ R from hR) _).setCell (show B ≤ R from hR) _).setCell (show B ≤ R from hR) _).setCell (show B ≤ R from hR) _
theorem tx_int (z : Int) : TX (z : Rat) = ⟨(decI z).toArray⟩ := by
  show (⟨(textQ (z : Rat)).toArray⟩ : ByteArray) = _
  congr 2
  unfold textQ
  rw [Rat.num_intCast, Rat.den_intCast]
  simp
theorem intString_any {v : Value} {z : Int} {w : World} (h : IV w v z) (hE : Env w) : Calls Tryz.prog 99 #[v] w fun e w' => e = .returned (.string (TX (z : Rat))) ∧ Below w.heap.size w w' := by
  rw [tx_int]
  rcases h with ⟨rfl, hs⟩ | ⟨b, g, off, cap, l, rfl, hw, hl, rfl⟩
  · exact intString_small z w hE hs
  · exact intString_big b g off cap l w hE hw hl
/-- a constraint is handed back -/
theorem end_con {fn : Func} {t : Tmp} {a : Act} {w2 : World} {R : Nat} {r s : Int} {ao : Option Addr} {n c : Nat} {tx tm : ByteArray} {post : Ending → World → Prop} (hres : fn.results = #[.cell t 39]) (hd : a.defers = []) (ht : a.tmps.getD t undef = .pointer (some ⟨R, 0, none⟩))
    (hR : w2.heap[R]? = some (.cells #[.int .i64 r, .int .i64 s, .slice ao n c, .string tx, .string tm] 39 (0, 0))) (h : post (.returned (.agg #[.int .i64 r, .int .i64 s, .slice ao n c, .string tx, .string tm])) w2) :
    bodyPost Tryz.prog fn post .ret a w2 := by
  have k0 := heap_cell hR 0
  have k1 := heap_cell hR 1
  have k2 := heap_cell hR 2
  have k3 := heap_cell hR 3
  have k4 := heap_cell hR 4
  simp at k0 k1 k2 k3 k4
  refine bodyPost_ret (v := .agg #[.int .i64 r, .int .i64 s, .slice ao n c, .string tx, .string tm]) ?_ hd h
  have ht' : a.tmps[t]?.getD undef = .pointer (some ⟨R, 0, none⟩) := by simpa using ht
  simp [results, hres, go_sem, ht', k0, k1, k2, k3, k4]
theorem end_con2 {fn : Func} {t u : Tmp} {a : Act} {w2 : World} {R : Nat} {r s : Int} {ao : Option Addr} {n c : Nat} {tx tm : ByteArray} {post : Ending → World → Prop} (hres : fn.results = #[.cell t 39, .tmp u]) (hd : a.defers = []) (ht : a.tmps.getD t undef = .pointer (some ⟨R, 0, none⟩)) (hu : a.tmps.getD u undef = .int .i64 0)
    (hR : w2.heap[R]? = some (.cells #[.int .i64 r, .int .i64 s, .slice ao n c, .string tx, .string tm] 39 (0, 0))) (h : post (.returned (.tuple #[.agg #[.int .i64 r, .int .i64 s, .slice ao n c, .string tx, .string tm], .int .i64 0])) w2) :
    bodyPost Tryz.prog fn post .ret a w2 := by
  have k0 := heap_cell hR 0
  have k1 := heap_cell hR 1
  have k2 := heap_cell hR 2
  have k3 := heap_cell hR 3
  have k4 := heap_cell hR 4
  simp at k0 k1 k2 k3 k4
  refine bodyPost_ret (v := .tuple #[.agg #[.int .i64 r, .int .i64 s, .slice ao n c, .string tx, .string tm], .int .i64 0]) ?_ hd h
  have ht' : a.tmps[t]?.getD undef = .pointer (some ⟨R, 0, none⟩) := by simpa using ht
  have hu' : a.tmps[u]?.getD undef = .int .i64 0 := by simpa using hu
  simp [results, hres, go_sem, ht', hu', k0, k1, k2, k3, k4]
/-- the boxes of normalComparison -/
structure NB (w W : World) (T : Nat) (a1 : Option Addr) (n1 c1 : Nat) (t1 : ByteArray) (x0 x1 x2 x3 x4 x5 : Value) (k : Rat) : Prop where
  a : W.heap[w.heap.size]? = some (.cells #[.int .i64 1, .int .i64 2, .slice a1 n1 c1, .string t1, .string ⟨#[]⟩] 39 (0, 0))
  r : W.heap[w.heap.size + 1]? = some (.cells #[.int .i64 0, .int .i64 0, .slice none 0 0, .string ⟨#[]⟩, .string ⟨#[]⟩] 39 (0, 0))
  t : W.heap[T]? = some (.cells #[x0, x1, x2, x3, x4, x5] 72 (0, 0))
  kv : RV W (.agg #[x0, x1, x2, x3, x4, x5]) k
  lt : w.heap.size + 1 < T
  bel : Below w.heap.size w W
theorem NB.far {w W W' : World} {T : Nat} {a1 : Option Addr} {n1 c1 : Nat} {t1 : ByteArray} {x0 x1 x2 x3 x4 x5 : Value} {k : Rat} (h : NB w W T a1 n1 c1 t1 x0 x1 x2 x3 x4 x5 k) (hb : Below W.heap.size W W') : NB w W' T a1 n1 c1 t1 x0 x1 x2 x3 x4 x5 k :=
  ⟨(hb.block _ (lt_of_heap h.a)).trans h.a, (hb.block _ (lt_of_heap h.r)).trans h.r, (hb.block _ (lt_of_heap h.t)).trans h.t, h.kv.far hb, h.lt, h.bel.trans (hb.mono h.bel.size)⟩
theorem RV.but {w w' : World} {v : Value} {q : Rat} (h : RV w v q) {R : Nat} {cs : Array Value} {t : TypeId} {fr : Nat × Nat} (hR : w.heap[R]? = some (.cells cs t fr)) (ht : t ≠ 132) (ho : ∀ g, g ≠ R → w'.heap[g]? = w.heap[g]?) : RV w' v q :=
  h.kept (words_but hR ht fun g _ hg => ho g hg)
theorem NB.put {w W : World} {T : Nat} {a1 : Option Addr} {n1 c1 : Nat} {t1 : ByteArray} {x0 x1 x2 x3 x4 x5 : Value} {k : Rat} (h : NB w W T a1 n1 c1 t1 x0 x1 x2 x3 x4 x5 k) {y0 y1 y2 y3 y4 y5 : Value} {q : Rat} (hq : RV W (.agg #[y0, y1, y2, y3, y4, y5]) q) : NB w ((((((W.setCell ⟨T, 0, none⟩ y0).setCell ⟨T, 1, none⟩ y1).setCell ⟨T, 2, none⟩ y2).setCell ⟨T, 3, none⟩ y3).setCell ⟨T, 4, none⟩ y4).setCell ⟨T, 5, none⟩ y5) T a1 n1 c1 t1 y0 y1 y2 y3 y4 y5 q := by
  have h1 := h.lt
  have ho : ∀ g, g ≠ T → ((((((W.setCell ⟨T, 0, none⟩ y0).setCell ⟨T, 1, none⟩ y1).setCell ⟨T, 2, none⟩ y2).setCell ⟨T, 3, none⟩ y3).setCell ⟨T, 4, none⟩ y4).setCell ⟨T, 5, none⟩ y5).heap[g]? = W.heap[g]? := fun _ hg => set6_other hg _ _ _ _ _ _
  exact ⟨(ho _ (by omega)).trans h.a, (ho _ (by omega)).trans h.r, set6_heap h.t _ _ _ _ _ _, hq.but h.t (by decide) ho, h1, set6_below h.bel (by omega) _ _ _ _ _ _⟩
theorem NB.other {w W : World} {T : Nat} {a1 : Option Addr} {n1 c1 : Nat} {t1 : ByteArray} {x0 x1 x2 x3 x4 x5 : Value} {k : Rat} (_h : NB w W T a1 n1 c1 t1 x0 x1 x2 x3 x4 x5 k) (y0 y1 y2 y3 y4 y5 : Value) : ∀ g, g ≠ T → ((((((W.setCell ⟨T, 0, none⟩ y0).setCell ⟨T, 1, none⟩ y1).setCell ⟨T, 2, none⟩ y2).setCell ⟨T, 3, none⟩ y3).setCell ⟨T, 4, none⟩ y4).setCell ⟨T, 5, none⟩ y5).heap[g]? = W.heap[g]? := fun _ hg => set6_other hg _ _ _ _ _ _
theorem LV.const {w : World} {s : Int} {ao : Option Addr} {n c : Nat} {tx : ByteArray} {d e : Nat} {p q : Rat} {rs : List (List UInt8 × Rat)} (h : LV w (.agg #[.int .i64 s, .slice ao n c, .string tx]) s d p rs) (hq : DS e q) (hd : d ≤ e) : LV w (.agg #[.int .i64 s, .slice ao n c, .string (TX q)]) s e q rs := by
  obtain ⟨ao', g, off, cap, he, h1, h2, h3, h4⟩ := h
  injection he with he
  injection he with he
  injection he with _ he
  injection he with he1 he
  injection he1 with e1 e2 e3
  subst e1 e2 e3
  exact ⟨_, g, off, _, rfl, h1, h2, h3.mono hd, hq⟩
/-- a comparison's normal form is handed back -/
def GetsC (d : Nat) (c : Rat) (f : List UInt8 → Rat) (w : World) (e : Ending) (w' : World) : Prop := ∃ rs ao n cp tx, e = .returned (.agg #[.int .i64 1, .int .i64 2, .slice ao n cp, .string tx, .string ⟨#[]⟩]) ∧ LV w' (.agg #[.int .i64 2, .slice ao n cp, .string tx]) 2 d c rs ∧ (∀ n, cof rs n = f n) ∧ Below w.heap.size w w'
def GetsCE (d : Nat) (c : Rat) (f : List UInt8 → Rat) (w : World) (e : Ending) (w' : World) : Prop := ∃ rs ao n cp tx, e = .returned (.tuple #[.agg #[.int .i64 1, .int .i64 2, .slice ao n cp, .string tx, .string ⟨#[]⟩], .int .i64 0]) ∧ LV w' (.agg #[.int .i64 2, .slice ao n cp, .string tx]) 2 d c rs ∧ (∀ n, cof rs n = f n) ∧ Below w.heap.size w w'
theorem ds_ce {d : Nat} {p : Rat} (h : DS d p) : DS (d + 1) ((ceI p : Int) : Rat) := by
  unfold ceI
  have := h.neg.fl
  have e : ((-flI (-p) : Int) : Rat) = -((flI (-p) : Int) : Rat) := Rat.intCast_neg _
  rw [e]
  exact this.neg
section
set_option maxRecDepth 100000
set_option maxHeartbeats 8000000
theorem normalLe {d : Nat} {w : World} {a1 : Option Addr} {n1 c1 : Nat} {t1 : ByteArray} {p : Rat} {cs : List (List UInt8 × Rat)} (h : LV w (.agg #[.int .i64 2, .slice a1 n1 c1, .string t1]) 2 d p cs) (hne : cs ≠ []) (hd : d ≤ 70) (hE : Env w) :
    Calls Tryz.prog 55 #[.agg #[.int .i64 1, .int .i64 2, .slice a1 n1 c1, .string t1, .string ⟨#[]⟩]] w (GetsC (27 * d + 8) ((ceI (kP cs * p) : Int) : Rat) (fun n => kP cs * cof cs n) w) := by
  have h0 := h
  obtain ⟨a1', g1, o1, c1', he, hc1, hty, hg1, d1⟩ := h
  injection he with he
  injection he with he
  injection he with _ he
  injection he with he1 he
  injection he with he2 he
  injection he1 with e1 e2 e3
  injection he2 with e4
  subst e1 e3 e2 e4
  clear he
  have hcl := can_len hg1.can hg1.nm
  have dk : DS (9 * d + 2) (kP cs) := kP_ds hne (can_nz hg1.can) hg1.ds hcl
  have hpr : ∀ W, Below w.heap.size w W → Calls Tryz.prog 101 #[.slice a1 cs.length c1] W (GetsQ (kP cs) W) := fun W hW => primitive_any W cs a1 g1 o1 c1 (hc1.far hW) hg1 hne (by omega) (hE.far hW)
  have hsc : ∀ W u, Below w.heap.size w W → RV W u (kP cs) → Calls Tryz.prog 42 #[.agg #[.int .i64 2, .slice a1 cs.length c1, .string (TX p)], u] W (GetsL 2 (27 * d + 7) (kP cs * p) (fun n => kP cs * cof cs n) W) := fun W u hW hu => by
    have := scaleL ((h0.far hW).mono (e := 9 * d + 2) (by omega)) hu dk (by omega) (hE.far hW)
    rwa [show 3 * (9 * d + 2) + 1 = 27 * d + 7 by omega] at this
  have dkp : DS (10 * d + 2) (kP cs * p) := (dk.mul d1).mono (by omega)
  have hmk : ∀ W, Below w.heap.size w W → Calls Tryz.prog 43 #[.string (TX (kP cs * p))] W (GetsQ (kP cs * p) W) := fun W hW => mustT dkp (by omega) W (hE.far hW)
  have hce : ∀ W u, RV W u (kP cs * p) → Calls Tryz.prog 103 #[u] W (GetsI (ceI (kP cs * p)) W) := fun W u hu => ratCeil_any u _ W hu (ds_rs (k := 100) dkp (by omega)) (by omega)
  have hst : ∀ W u, Below w.heap.size w W → IV W u (ceI (kP cs * p)) → Calls Tryz.prog 99 #[u] W fun e w' => e = .returned (.string (TX ((ceI (kP cs * p) : Int) : Rat))) ∧ Below W.heap.size W w' := fun W u hW hu => intString_any hu (hE.far hW)
  have hdc : DS (27 * d + 8) ((ceI (kP cs * p) : Int) : Rat) := (ds_ce dkp).mono (by omega)
  obtain ⟨n1, hn1⟩ : ∃ n, cs.length = n := ⟨_, rfl⟩
  rw [hn1] at hpr hsc ⊢
  clear hn1 h0 dk dkp
  obtain ⟨m1, m2, mb⟩ := newL2 w (.cells #[.int .i64 1, .int .i64 2, .slice a1 n1 c1, .string (TX p), .string ⟨#[]⟩] 39) (.cells #[.int .i64 0, .int .i64 0, .slice none 0 0, .string ⟨#[]⟩, .string ⟨#[]⟩] 39)
  have HM1 := Lib.hid m1
  have HM2 := Lib.hid m2
  have HMB := Lib.hid mb
  have HPR := Lib.hid hpr
  have HSC := Lib.hid hsc
  have HMK := Lib.hid hmk
  have HCE := Lib.hid hce
  have HST := Lib.hid hst
  have HDC := Lib.hid hdc
  clear m1 m2 mb hpr hsc hmk hce hst hdc
  generalize TX p = t1 at *

  obtain ⟨zc, hzc⟩ : ∃ z, ceI (kP cs * p) = z := ⟨_, rfl⟩
  rw [hzc] at HCE HST HDC ⊢
  obtain ⟨tz, htz⟩ : ∃ tz, TX ((zc : Int) : Rat) = tz := ⟨_, rfl⟩
  have HTZ := Lib.hid htz
  rw [htz] at HST
  obtain ⟨tk, htk⟩ : ∃ tk, TX (kP cs * p) = tk := ⟨_, rfl⟩
  have HTK := Lib.hid htk
  rw [htk] at HMK
  clear hzc htz htk
  go_enter Tryz.func55, Tryz.ntmps55
  go_wp2_with fail
  generalize (w.alloc (.cells #[.int .i64 1, .int .i64 2, .slice a1 n1 c1, .string t1, .string ⟨#[]⟩] 39)).alloc (.cells #[.int .i64 0, .int .i64 0, .slice none 0 0, .string ⟨#[]⟩, .string ⟨#[]⟩] 39) = w3 at *
  refine (HPR.out _ HMB.out).mono ?_
  rintro e w4 ⟨v4, rfl, hv, hb⟩
  obtain ⟨s3, b3, ao3, n3, c3, s4, b4, ao4, n4, c4, rfl, i1, i2⟩ := rv_form hv
  have hal : Below w4.heap.size w4 (w4.alloc (.cells #[.int .i64 s3, .bool b3, .slice ao3 n3 c3, .int .i64 s4, .bool b4, .slice ao4 n4 c4] 72)) := (Below.refl _ _).alloc (Nat.le_refl _) _
  have hb2 := hb.trans (hal.mono hb.size)
  have hlt := lt_of_heap ((hb.block _ (lt_of_heap HM2.out)).trans HM2.out)
  have hNB : NB w (w4.alloc (.cells #[.int .i64 s3, .bool b3, .slice ao3 n3 c3, .int .i64 s4, .bool b4, .slice ao4 n4 c4] 72)) w4.heap.size a1 n1 c1 t1 (.int .i64 s3) (.bool b3) (.slice ao3 n3 c3) (.int .i64 s4) (.bool b4) (.slice ao4 n4 c4) (kP cs) :=
    ⟨(hb2.block _ (lt_of_heap HM1.out)).trans HM1.out, (hb2.block _ (lt_of_heap HM2.out)).trans HM2.out, heap_alloc_new _ _, hv.far hal, hlt, HMB.out.trans (hb2.mono HMB.out.size)⟩
  have HK := Lib.hid hNB
  have q0 := heap_cell hNB.a 0
  clear hv hb i1 i2 hal hb2 hlt hNB
  go_wp2_with fail
  generalize w4.alloc (.cells #[.int .i64 s3, .bool b3, .slice ao3 n3 c3, .int .i64 s4, .bool b4, .slice ao4 n4 c4] 72) = w5 at *
  generalize w4.heap.size = T at *
  clear q0
  refine add_region [[], [0], [], [2], [], [2, 3, 4], [0, 1, 2, 3, 4, 5], [], [0, 1, 2, 3, 4, 5, 6, 7]] (fun W => NB w W T a1 n1 c1 t1 (.int .i64 s3) (.bool b3) (.slice ao3 n3 c3) (.int .i64 s4) (.bool b4) (.slice ao4 n4 c4) (kP cs)) (fun _ => True) ?_
  iterate 5
    apply a_con
    · intro x; go_simp; done
    · intro x W R hW hF hR
      have p0 := heap_cell hW.a 0
      have p1 := heap_cell hW.a 1
      have p2 := heap_cell hW.a 2
      have p3 := heap_cell hW.a 3
      have z0 := heap_cell hW.t 0
      have z1 := heap_cell hW.t 1
      have z2 := heap_cell hW.t 2
      have z3 := heap_cell hW.t 3
      have z4 := heap_cell hW.t 4
      have z5 := heap_cell hW.t 5
      clear hF
      unfold addAt
      go_simp
      simp only [addUpon]
      exact hR _ (Below.refl _ _)
    simp only [Act.put, List.setIfInBounds_toArray, List.set_cons_zero, List.set_cons_succ]
  refine a_opq (fun v W => ∃ rs, LV W (v) 2 (27 * d + 7) (kP cs * p) rs ∧ ∀ n, cof rs n = kP cs * cof cs n) (fun _ _ _ h hb => let ⟨rs, h1, h2⟩ := h; ⟨rs, h1.far hb, h2⟩) ?_ ?_ ?_
  · intro x; go_simp; done
  · intro x W R hW hF hR
    clear hF
    unfold addAt
    go_simp
    simp only [addUpon]
    refine (HSC.out W _ hW.bel hW.kv).mono ?_
    rintro e w' ⟨rs, v, rfl, hl, hf, hb⟩
    exact ⟨v, rfl, hR _ _ ⟨rs, hl, hf⟩ hb⟩
  simp only [Act.put, List.setIfInBounds_toArray, List.set_cons_zero, List.set_cons_succ, List.length_cons, List.length_nil, Nat.zero_add, Nat.reduceAdd]
  refine a_opq (fun v W => ∃ rs ao n c tx, v = .agg #[.int .i64 1, .int .i64 2, .slice ao n c, .string tx, .string ⟨#[]⟩] ∧ LV W (.agg #[.int .i64 2, .slice ao n c, .string tx]) 2 (27 * d + 7) (kP cs * p) rs ∧ ∀ n, cof rs n = kP cs * cof cs n) (fun _ _ _ h hb => let ⟨rs, ao, n, c, tx, h0, h1, h2⟩ := h; ⟨rs, ao, n, c, tx, h0, h1.far hb, h2⟩) ?_ ?_ ?_
  · intro x; go_simp; done
  · intro x W R hW hF hR
    have hu := hF.1.2 rfl rfl rfl
    simp only [AK.fact] at hu
    obtain ⟨rs, hl, hf⟩ := hu
    have HL := Lib.hid hl
    have HF := Lib.hid hf
    obtain ⟨ao, g, off, c, hx, -⟩ := hl
    have HX := Lib.hid hx
    simp only [hx]
    clear hF hx hf
    unfold addAt
    go_simp
    simp only [addUpon]
    exact hR _ _ ⟨rs, ao, _, c, _, rfl, by rw [← HX.out]; exact HL.out, HF.out⟩ (Below.refl _ _)
  simp only [Act.put, List.setIfInBounds_toArray, List.set_cons_zero, List.set_cons_succ, List.length_cons, List.length_nil, Nat.zero_add, Nat.reduceAdd]
  refine a_new (fun B W => T < B ∧ W.heap[B]? = some (.cells #[.int .i64 0, .int .i64 0, .slice none 0 0, .string ⟨#[]⟩, .string ⟨#[]⟩] 39 (0, 0))) (fun _ _ _ h hb => ⟨h.1, (hb.block _ (lt_of_heap h.2)).trans h.2⟩) ?_ ?_ ?_
  · intro x; go_simp; done
  · intro x W R hW hF hR
    clear hF
    unfold addAt
    go_simp
    simp only [addUpon]
    exact hR _ ⟨lt_of_heap hW.t, heap_alloc_new _ _⟩ ((Below.refl _ _).alloc (Nat.le_refl _) _) (by simp)
  simp only [Act.put, List.setIfInBounds_toArray, List.set_cons_zero, List.set_cons_succ, List.length_cons, List.length_nil, Nat.zero_add, Nat.reduceAdd]
  refine a_wrt (fun x W => ∃ B rs ao n c tx, x 7 = .pointer (some ⟨B, 0, none⟩) ∧ T < B ∧ W.heap[B]? = some (.cells #[.int .i64 1, .int .i64 2, .slice ao n c, .string tx, .string ⟨#[]⟩] 39 (0, 0)) ∧ NB w W T a1 n1 c1 t1 (.int .i64 s3) (.bool b3) (.slice ao3 n3 c3) (.int .i64 s4) (.bool b4) (.slice ao4 n4 c4) (kP cs) ∧ tx = tk ∧ LV W (.agg #[.int .i64 2, .slice ao n c, .string tx]) 2 (27 * d + 7) (kP cs * p) rs ∧ ∀ n, cof rs n = kP cs * cof cs n) (fun _ _ _ h hb => let ⟨B, rs, ao, n, c, tx, h1, h2, h3, h4, h0, h5, h6⟩ := h; ⟨B, rs, ao, n, c, tx, h1, h2, (hb.block _ (lt_of_heap h3)).trans h3, h4.far hb, h0, h5.far hb, h6⟩) (fun x x' w hx hT => let ⟨B, rs, ao, n, c, tx, h1, h⟩ := hT; ⟨B, rs, ao, n, c, tx, (hx 7 (.inr (List.contains_iff_mem.1 rfl))).symm.trans h1, h⟩) ?_ ?_ ?_
  · intro x; go_simp; done
  · intro x W R hW hF hD hR
    have hu := hF.2.1.2 rfl rfl rfl
    have hb := hF.1.2 rfl rfl rfl
    simp only [AK.fact] at hu hb
    obtain ⟨B, hx7, hTB, hB⟩ := hb
    obtain ⟨rs, ao, n, c, tx, hx6, hl, hf⟩ := hu
    have htx : tx = tk := by
      obtain ⟨_, _, _, _, he, -⟩ := hl
      injection he with he
      injection he with he
      injection he with _ he
      injection he with _ he
      injection he with he _
      injection he with he
      rw [he]; exact HTK.out
    have HL := Lib.hid hl
    have HF := Lib.hid hf
    have HTX := Lib.hid htx
    simp only [hx7, hx6]
    have e0 := heap_cell hB 0
    have e1 := heap_cell hB 1
    have e2 := heap_cell hB 2
    have e3 := heap_cell hB 3
    have e4 := heap_cell hB 4
    have fr := fun i => heap_fz hB i
    clear hF hD hl hf htx
    unfold addAt
    go_simp
    simp only [addUpon]
    have hlt := hW.lt
    have ho : ∀ g, g ≠ B → (((((W.setCell ⟨B, 0, none⟩ (.int .i64 1)).setCell ⟨B, 1, none⟩ (.int .i64 2)).setCell ⟨B, 2, none⟩ (.slice ao n c)).setCell ⟨B, 3, none⟩ (.string tx)).setCell ⟨B, 4, none⟩ (.string ⟨#[]⟩)).heap[g]? = W.heap[g]? := fun g hg => set5_other _ _ _ _ _ hg
    refine hR _ _ ⟨B, rs, ao, n, c, tx, (updX_ne (i := 8) (j := 7) _ _ (by decide)).trans hx7, hTB, set5_heap hB _ _ _ _ _, ⟨(ho _ (by omega)).trans hW.a, (ho _ (by omega)).trans hW.r, (ho _ (by omega)).trans hW.t, hW.kv.but hB (by decide) ho, hlt, set5_below hW.bel (by omega) _ _ _ _ _⟩, HTX.out, HL.out.but hB (by decide) ho, HF.out⟩ trivial (by simp [World.setCell])
  simp only [Act.put]
  refine a_nil (by kernel_rfl) (by kernel_rfl) (by kernel_rfl) (fun _ _ h hb => h.far hb) (fun _ _ _ _ => trivial) (fun _ _ => trivial) (HK.out.far (Below.refl _ _).drew) ?_
  intro x W hE hW hF hD
  clear hD
  obtain ⟨B, rs, ao, n, c, tx, hx7, hTB, hB, hN, htx, hl, hf⟩ := hF.1.2 rfl
  subst htx
  simp only [hx7]
  have HB := Lib.hid hB
  have HN := Lib.hid hN
  have HL := Lib.hid hl
  have HF := Lib.hid hf
  have p1 := heap_cell hN.a 1
  have e3 := heap_cell hB 3
  clear hF hW hx7 hB hN hl hf
  go_wp2_with fail
  refine (HMK.out _ HN.out.bel).mono ?_
  rintro e w6 ⟨v6, rfl, hv, hb⟩
  have HB6 := Lib.hid ((hb.block _ (lt_of_heap HB.out)).trans HB.out)
  have HN6 := Lib.hid (HN.out.far hb)
  have HL6 := Lib.hid (HL.out.far hb)
  have HV6 := Lib.hid hv
  obtain ⟨s5, b5, ao5, n5, c5, s6, b6, ao6, n6, c6, rfl, -⟩ := rv_form hv
  have z0 := heap_cell HN6.out.t 0
  have z1 := heap_cell HN6.out.t 1
  have z2 := heap_cell HN6.out.t 2
  have z3 := heap_cell HN6.out.t 3
  have z4 := heap_cell HN6.out.t 4
  have z5 := heap_cell HN6.out.t 5
  have fr := fun i => heap_fz HN6.out.t i
  clear hb hv p1 e3
  go_upto_region 8 with fail
  have hN7 := HN6.out.put HV6.out
  have ho7 := HN6.out.other (.int .i64 s5) (.bool b5) (.slice ao5 n5 c5) (.int .i64 s6) (.bool b6) (.slice ao6 n6 c6)
  have hTB6 : B ≠ T := by omega
  have HN7 := Lib.hid hN7
  have HB7 := Lib.hid ((ho7 B hTB6).trans HB6.out)
  have HL7 := Lib.hid (HL6.out.but HN6.out.t (by decide) ho7)
  clear hN7 ho7 z0 z1 z2 z3 z4 z5 fr HN HB HL HN6 HB6 HL6 HV6
  generalize (((((w6.setCell ⟨T, 0, none⟩ (.int .i64 s5)).setCell ⟨T, 1, none⟩ (.bool b5)).setCell ⟨T, 2, none⟩ (.slice ao5 n5 c5)).setCell ⟨T, 3, none⟩ (.int .i64 s6)).setCell ⟨T, 4, none⟩ (.bool b6)).setCell ⟨T, 5, none⟩ (.slice ao6 n6 c6) = w7 at *
  have p0 := heap_cell HN7.out.a 0
  have z0 := heap_cell HN7.out.t 0
  have z1 := heap_cell HN7.out.t 1
  have z2 := heap_cell HN7.out.t 2
  have z3 := heap_cell HN7.out.t 3
  have z4 := heap_cell HN7.out.t 4
  have z5 := heap_cell HN7.out.t 5
  go_wp2_with fail
  refine (HCE.out _ _ HN7.out.kv).mono ?_
  rintro e w8 ⟨v8, rfl, hv, hb⟩
  have HN8 := Lib.hid (HN7.out.far hb)
  have HB8 := Lib.hid ((hb.block _ (lt_of_heap HB7.out)).trans HB7.out)
  have HL8 := Lib.hid (HL7.out.far hb)
  have HV8 := Lib.hid hv
  clear hb hv p0 z0 z1 z2 z3 z4 z5
  go_wp2_with fail
  refine (HST.out _ _ HN8.out.bel HV8.out).mono ?_
  rintro e w9 ⟨rfl, hb⟩
  have HN9 := Lib.hid (HN8.out.far hb)
  have HB9 := Lib.hid ((hb.block _ (lt_of_heap HB8.out)).trans HB8.out)
  have HL9 := Lib.hid (HL8.out.far hb)
  clear hb
  have e3 := heap_cell HB9.out 3
  have fr3 := heap_fz HB9.out 3
  have hlt9 := HN9.out.lt
  have ho : ∀ g, g ≠ B → (w9.setCell ⟨B, 3, none⟩ (.string tz)).heap[g]? = w9.heap[g]? := fun g hg => Below.heap_setCell _ _ _ _ hg
  have hB10 := heap_set HB9.out 3 (.string tz)
  simp at hB10
  have HB10 := Lib.hid hB10
  have HR10 := Lib.hid ((ho _ (show w.heap.size + 1 ≠ B by omega)).trans HN9.out.r)
  have HL10 := Lib.hid (HL9.out.but HB9.out (by decide) ho)
  have HBL10 := Lib.hid (HN9.out.bel.setCell (p := ⟨B, 3, none⟩) (show w.heap.size ≤ B by omega) (.string tz))
  clear ho hB10
  go_upto_region 15 with fail
  generalize w9.setCell ⟨B, 3, none⟩ (.string tz) = w10 at *
  clear e3 fr3
  have e0 := heap_cell HB10.out 0
  have e1 := heap_cell HB10.out 1
  have e2 := heap_cell HB10.out 2
  have e3 := heap_cell HB10.out 3
  have e4 := heap_cell HB10.out 4
  have r0 := heap_cell HR10.out 0
  have r1 := heap_cell HR10.out 1
  have r2 := heap_cell HR10.out 2
  have r3 := heap_cell HR10.out 3
  have r4 := heap_cell HR10.out 4
  have fr := fun i => heap_fz HR10.out i
  go_wp2_with fail
  refine end_con rfl rfl rfl (set5_heap HR10.out _ _ _ _ _) ⟨rs, ao, n, c, tz, rfl, ?_, HF.out, set5_below HBL10.out (by omega) _ _ _ _ _⟩
  have hlv := HL10.out.const HDC.out (by omega)
  rw [HTZ.out] at hlv
  exact hlv.but HR10.out (by decide) (fun g hg => set5_other _ _ _ _ _ hg)
end
end Go.Proofs.YtgfoljpjdmeooaaGreatDoor

/- Linear expressions as values; scale, Add, Scale. -/
import Derived.Test.YtgfoljpjdmeooaaGreatDoorKLE
import Derived.Test.YtgfoljpjdmeooaaGreatDoorKLG
namespace Go.Proofs.YtgfoljpjdmeooaaGreatDoor
open Go.RowKit Nmx
open Go.Lib (compareBytes)

/-- v is a linear expression -/
def LV (w : World) (v : Value) (s : Int) (d : Nat) (c : Rat) (cs : List (List UInt8 × Rat)) : Prop :=
  ∃ ao g off cap, v = .agg #[.int .i64 s, .slice ao cs.length cap, .string (TX c)] ∧ CSl w ao g off cap cs ∧ (cs = [] ∨ ∃ cur fr, w.heap[g]? = some (.cells cur 66 fr)) ∧ Good d cs ∧ DS d c
theorem Good.mono {d e : Nat} {cs : List (List UInt8 × Rat)} (h : Good d cs) (hd : d ≤ e) : Good e cs := ⟨h.can, h.nm, fun x hx => (h.ds x hx).mono hd⟩
theorem LV.mono {w : World} {v : Value} {s : Int} {d e : Nat} {c : Rat} {cs : List (List UInt8 × Rat)} (h : LV w v s d c cs) (hd : d ≤ e) : LV w v s e c cs :=
  let ⟨ao, g, off, cap, h1, h2, h3, h4, h5⟩ := h
  ⟨ao, g, off, cap, h1, h2, h3, h4.mono hd, h5.mono hd⟩
theorem LV.far {w w' : World} {v : Value} {s : Int} {d : Nat} {c : Rat} {cs : List (List UInt8 × Rat)} (h : LV w v s d c cs) (hb : Below w.heap.size w w') : LV w' v s d c cs :=
  let ⟨ao, g, off, cap, h1, h2, h3, h4, h5⟩ := h
  ⟨ao, g, off, cap, h1, h2.far hb, h3.imp id fun ⟨cur, fr, h⟩ => ⟨cur, fr, (hb.block _ (lt_of_heap h)).trans h⟩, h4, h5⟩
/-- a store into a block of another type -/
theorem LV.but {w w' : World} {v : Value} {s : Int} {d : Nat} {c : Rat} {cs : List (List UInt8 × Rat)} (h : LV w v s d c cs) {R : Nat} {cells : Array Value} {t : TypeId} {fr : Nat × Nat} (hR : w.heap[R]? = some (.cells cells t fr)) (ht : t ≠ 66) (ho : ∀ g, g ≠ R → w'.heap[g]? = w.heap[g]?) : LV w' v s d c cs := by
  obtain ⟨ao, g, off, cap, h1, h2, h3, h4, h5⟩ := h
  refine ⟨ao, g, off, cap, h1, ?_, ?_, h4, h5⟩
  · refine ⟨h2.le, h2.most, h2.ad, fun i hi => ?_, fun i hi => ?_⟩
    all_goals
      rcases h3 with rfl | ⟨cur, fr', h3⟩
      · exact absurd hi (by simp)
      · have hne : g ≠ R := fun e => by rw [e, hR] at h3; cases h3; exact ht rfl
        rw [World.cell?_of_block (w := w) (w' := w') (a := ⟨g, _, none⟩) (ho g hne)]
        first | exact h2.nm i hi | exact h2.nu i hi
  · refine h3.imp id fun ⟨cur, fr', h3⟩ => ⟨cur, fr', ?_⟩
    rw [ho g fun e => by rw [e, hR] at h3; cases h3; exact ht rfl]
    exact h3
/-- a linear expression is handed back -/
def GetsL (s : Int) (d : Nat) (c : Rat) (f : List UInt8 → Rat) (w : World) (e : Ending) (w' : World) : Prop := ∃ rs v, e = .returned v ∧ LV w' v s d c rs ∧ (∀ n, cof rs n = f n) ∧ Below w.heap.size w w'
/-- .. and no error -/
def GetsLE (s : Int) (d : Nat) (c : Rat) (f : List UInt8 → Rat) (w : World) (e : Ending) (w' : World) : Prop := ∃ rs v, e = .returned (.tuple #[v, .int .i64 0]) ∧ LV w' v s d c rs ∧ (∀ n, cof rs n = f n) ∧ Below w.heap.size w w'
theorem nilLV (w : World) (s : Int) (d : Nat) : LV w (.agg #[.int .i64 s, .slice none 0 0, .string ⟨#[48]⟩]) s d 0 [] := by
  rw [← tx_int_zero]
  exact ⟨none, 0, 0, 0, rfl, ⟨Nat.le_refl _, by omega, fun h => by omega, fun i hi => absurd hi (by simp), fun i hi => absurd hi (by simp)⟩, .inl rfl, ⟨trivial, fun x hx => (List.not_mem_nil hx).elim, fun x hx => (List.not_mem_nil hx).elim⟩, DS.zero d⟩
section
set_option maxRecDepth 100000
set_option maxHeartbeats 4000000
theorem combineL {d : Nat} {w : World} {v1 v2 u : Value} {s1 s2 : Int} {p1 p2 k : Rat} {cs1 cs2 : List (List UInt8 × Rat)} (h1 : LV w v1 s1 d p1 cs1) (h2 : LV w v2 s2 d p2 cs2) (hk : RV w u k) (dk : DS d k) (hd : d ≤ 700) (hE : Env w) :
    Calls Tryz.prog 39 #[v1, v2, u] w (GetsL s1 (3 * d + 1) (p1 + k * p2) (fun n => cof cs1 n + k * cof cs2 n) w) := by
  obtain ⟨a1, g1, o1, c1, rfl, hc1, -, hg1, d1⟩ := h1
  obtain ⟨a2, g2, o2, c2, rfl, hc2, -, hg2, d2⟩ := h2
  obtain ⟨_, _, _, _, _, _, _, _, _, _, rfl, -, -⟩ := rv_form hk
  refine (combine_ok w s1 s2 cs1 cs2 p1 p2 k a1 g1 o1 c1 a2 g2 o2 c2 _ _ _ _ _ _ hc1 hc2 hk dk d1 d2 hg1 hg2 hd hE).mono ?_
  rintro e w' ⟨rs, ao, g, cap, rfl, hcs, hty, hg, hf, hb⟩
  exact ⟨rs, _, rfl, ⟨ao, g, 0, cap, rfl, hcs, hty, hg, (d1.add (dk.mul d2)).mono (by omega)⟩, hf, hb⟩
theorem scaleL {d : Nat} {w : World} {v u : Value} {s : Int} {p k : Rat} {cs : List (List UInt8 × Rat)} (h : LV w v s d p cs) (hk : RV w u k) (dk : DS d k) (hd : d ≤ 700) (hE : Env w) :
    Calls Tryz.prog 42 #[v, u] w (GetsL s (3 * d + 1) (k * p) (fun n => k * cof cs n) w) := by
  have hcb : ∀ W, Below w.heap.size w W → Calls Tryz.prog 39 #[.agg #[.int .i64 s, .slice none 0 0, .string ⟨#[48]⟩], v, u] W (GetsL s (3 * d + 1) (k * p) (fun n => k * cof cs n) W) := fun W hW => by
    have := combineL (nilLV W s d) (h.far hW) (hk.far hW) dk hd (hE.far hW)
    rw [Rat.zero_add] at this
    refine this.mono fun e w' ⟨rs, v, h1, h2, h3, h4⟩ => ⟨rs, v, h1, h2, fun n => ?_, h4⟩
    rw [h3 n]
    exact Rat.zero_add _
  obtain ⟨ao, g, off, cap, rfl, -⟩ := h
  obtain ⟨s1, b1, a1, n1, c1, s2, b2, a2, n2, c2, rfl, -⟩ := rv_form hk
  have hn3 : ∀ o1 o2 o3, ((((w.alloc o1).alloc o2).alloc o3).heap[w.heap.size + 2]? = some o3 ∧ Below w.heap.size w (((w.alloc o1).alloc o2).alloc o3)) := fun o1 o2 o3 => by
    refine ⟨?_, ?_⟩
    · have := heap_alloc_new ((w.alloc o1).alloc o2) o3
      simpa using this
    · have b1 : Below w.heap.size w (w.alloc o1) := (Below.refl _ _).alloc (Nat.le_refl _) _
      have b2 := b1.alloc b1.size o2
      exact b2.alloc b2.size o3
  have HN3 := Lib.hid hn3
  have HCB := Lib.hid hcb
  clear hn3 hcb hk hE
  obtain ⟨n, hn⟩ : ∃ n, cs.length = n := ⟨_, rfl⟩
  rw [hn] at HCB ⊢
  clear hn
  generalize TX p = tp at *
  go_enter Tryz.func42, Tryz.ntmps42
  go_wp2_with fail
  obtain ⟨hR, hB⟩ := HN3.out (.cells #[.int .i64 s, .slice ao n cap, .string tp] 26) (.cells #[.int .i64 s1, .bool b1, .slice a1 n1 c1, .int .i64 s2, .bool b2, .slice a2 n2 c2] 72) (.cells #[.int .i64 0, .slice none 0 0, .string ⟨#[]⟩] 26)
  have hc := HCB.out _ hB
  have HR := Lib.hid hR
  have HB := Lib.hid hB
  clear hR hB
  generalize (((w.alloc (.cells #[.int .i64 s, .slice ao n cap, .string tp] 26)).alloc (.cells #[.int .i64 s1, .bool b1, .slice a1 n1 c1, .int .i64 s2, .bool b2, .slice a2 n2 c2] 72)).alloc (.cells #[.int .i64 0, .slice none 0 0, .string ⟨#[]⟩] 26)) = w3 at *
  refine hc.mono ?_
  rintro e w4 ⟨rs, v, rfl, hl, hf, hb⟩
  have HR4 := Lib.hid ((hb.block _ (lt_of_heap HR.out)).trans HR.out)
  have HB4 := Lib.hid (HB.out.trans (hb.mono HB.out.size))
  have HL := Lib.hid hl
  have HF := Lib.hid hf
  obtain ⟨ao', g', off', cap', rfl, -⟩ := hl
  clear hc hb hf
  have k0 := heap_cell HR4.out 0
  have k1 := heap_cell HR4.out 1
  have k2 := heap_cell HR4.out 2
  have fr := fun i => heap_fz HR4.out i
  go_wp2_with fail
  refine end_lin rfl rfl rfl HR4.out ?_
  exact ⟨rs, _, rfl, HL.out.but HR4.out (by decide) (fun g hg => set3_other _ _ _ hg), HF.out, ((HB4.out.setCell (show w.heap.size ≤ w.heap.size + 2 by omega) _).setCell (show w.heap.size ≤ w.heap.size + 2 by omega) _).setCell (show w.heap.size ≤ w.heap.size + 2 by omega) _⟩
/-- an expression and no error are handed back -/
theorem end_lin2 {fn : Func} {t u : Tmp} {a : Act} {w2 : World} {R : Nat} {s : Int} {ao : Option Addr} {n c : Nat} {tx : ByteArray} {post : Ending → World → Prop} (hres : fn.results = #[.cell t 26, .tmp u]) (hd : a.defers = []) (ht : a.tmps.getD t undef = .pointer (some ⟨R, 0, none⟩)) (hu : a.tmps.getD u undef = .int .i64 0)
    (hR : w2.heap[R]? = some (.cells #[.int .i64 s, .slice ao n c, .string tx] 26 (0, 0))) (h : post (.returned (.tuple #[.agg #[.int .i64 s, .slice ao n c, .string tx], .int .i64 0])) w2) :
    bodyPost Tryz.prog fn post .ret a w2 := by
  have k0 := heap_cell hR 0
  have k1 := heap_cell hR 1
  have k2 := heap_cell hR 2
  simp at k0 k1 k2
  refine bodyPost_ret (v := .tuple #[.agg #[.int .i64 s, .slice ao n c, .string tx], .int .i64 0]) ?_ hd h
  have ht' : a.tmps[t]?.getD undef = .pointer (some ⟨R, 0, none⟩) := by simpa using ht
  have hu' : a.tmps[u]?.getD undef = .int .i64 0 := by simpa using hu
  simp [results, hres, go_sem, ht', hu', k0, k1, k2]
theorem validL {d : Nat} {w : World} {v : Value} {s : Int} {c : Rat} {cs : List (List UInt8 × Rat)} (h : LV w v s d c cs) (hs : s = 2 ∨ s = 3) (hd : d ≤ 3000) (hE : Env w) :
    Calls Tryz.prog 25 #[v] w fun e w' => e = .returned (.bool true) ∧ Below w.heap.size w w' := by
  obtain ⟨ao, g, off, cap, rfl, hc, -, hg, dc⟩ := h
  exact linValid_ok w s cs c ao g off cap hc hs dc hg hd hE
/-- the boxes of Add -/
structure AB (w W : World) (s1 s2 : Int) (a1 : Option Addr) (n1 c1 : Nat) (t1 : ByteArray) (a2 : Option Addr) (n2 c2 : Nat) (t2 : ByteArray) : Prop where
  a : W.heap[w.heap.size]? = some (.cells #[.int .i64 s1, .slice a1 n1 c1, .string t1] 26 (0, 0))
  b : W.heap[w.heap.size + 1]? = some (.cells #[.int .i64 s2, .slice a2 n2 c2, .string t2] 26 (0, 0))
  r : W.heap[w.heap.size + 2]? = some (.cells #[.int .i64 0, .slice none 0 0, .string ⟨#[]⟩] 26 (0, 0))
  bel : Below w.heap.size w W
theorem AB.far {w W W' : World} {s1 s2 : Int} {a1 : Option Addr} {n1 c1 : Nat} {t1 : ByteArray} {a2 : Option Addr} {n2 c2 : Nat} {t2 : ByteArray} (h : AB w W s1 s2 a1 n1 c1 t1 a2 n2 c2 t2) (hb : Below W.heap.size W W') : AB w W' s1 s2 a1 n1 c1 t1 a2 n2 c2 t2 :=
  ⟨(hb.block _ (lt_of_heap h.a)).trans h.a, (hb.block _ (lt_of_heap h.b)).trans h.b, (hb.block _ (lt_of_heap h.r)).trans h.r, h.bel.trans (hb.mono h.bel.size)⟩
theorem newL3 (w : World) (o1 o2 o3 : Obj) : (((w.alloc o1).alloc o2).alloc o3).heap[w.heap.size]? = some o1 ∧ (((w.alloc o1).alloc o2).alloc o3).heap[w.heap.size + 1]? = some o2 ∧ (((w.alloc o1).alloc o2).alloc o3).heap[w.heap.size + 2]? = some o3 ∧ Below w.heap.size w (((w.alloc o1).alloc o2).alloc o3) := by
  have h1 := heap_alloc_new w o1
  have h2 := heap_alloc_new (w.alloc o1) o2
  have h3 := heap_alloc_new ((w.alloc o1).alloc o2) o3
  refine ⟨heap_al (heap_al h1 _) _, ?_, ?_, ?_⟩
  · have := heap_al h2 o3; simpa using this
  · simpa using h3
  · have b1 : Below w.heap.size w (w.alloc o1) := (Below.refl _ _).alloc (Nat.le_refl _) _
    have b2 := b1.alloc b1.size o2
    exact b2.alloc b2.size o3
/-- the boxes of Scale -/
structure SB (w W : World) (s1 : Int) (a1 : Option Addr) (n1 c1 : Nat) (t1 : ByteArray) : Prop where
  a : W.heap[w.heap.size]? = some (.cells #[.int .i64 s1, .slice a1 n1 c1, .string t1] 26 (0, 0))
  r : W.heap[w.heap.size + 1]? = some (.cells #[.int .i64 0, .slice none 0 0, .string ⟨#[]⟩] 26 (0, 0))
  bel : Below w.heap.size w W
theorem SB.far {w W W' : World} {s1 : Int} {a1 : Option Addr} {n1 c1 : Nat} {t1 : ByteArray} (h : SB w W s1 a1 n1 c1 t1) (hb : Below W.heap.size W W') : SB w W' s1 a1 n1 c1 t1 :=
  ⟨(hb.block _ (lt_of_heap h.a)).trans h.a, (hb.block _ (lt_of_heap h.r)).trans h.r, h.bel.trans (hb.mono h.bel.size)⟩
theorem newL2 (w : World) (o1 o2 : Obj) : ((w.alloc o1).alloc o2).heap[w.heap.size]? = some o1 ∧ ((w.alloc o1).alloc o2).heap[w.heap.size + 1]? = some o2 ∧ Below w.heap.size w ((w.alloc o1).alloc o2) := by
  have h1 := heap_alloc_new w o1
  have h2 := heap_alloc_new (w.alloc o1) o2
  refine ⟨heap_al h1 _, by simpa using h2, ?_⟩
  have b1 : Below w.heap.size w (w.alloc o1) := (Below.refl _ _).alloc (Nat.le_refl _) _
  exact b1.alloc b1.size o2
theorem scaleTL {d : Nat} {w : World} {v : Value} {s : Int} {p k : Rat} {cs : List (List UInt8 × Rat)} (h : LV w v s d p cs) (hs : s = 2 ∨ s = 3) (dk : DS d k) (hd : d ≤ 700) (hE : Env w) :
    Calls Tryz.prog 14 #[v, .string (TX k)] w (GetsLE s (3 * d + 1) (k * p) (fun n => k * cof cs n) w) := by
  have hv1 : ∀ W, Below w.heap.size w W → Calls Tryz.prog 25 #[v] W fun e w' => e = .returned (.bool true) ∧ Below W.heap.size W w' := fun W hW => validL (h.far hW) hs (by omega) (hE.far hW)
  have hv2 : ∀ W, Below w.heap.size w W → Calls Tryz.prog 41 #[.string (TX k)] W fun e w' => e = .returned (.bool true) ∧ Below W.heap.size W w' := fun W hW => numValidE dk (by omega) W (hE.far hW)
  have hmk : ∀ W, Below w.heap.size w W → Calls Tryz.prog 43 #[.string (TX k)] W (GetsQ k W) := fun W hW => mustT dk (by omega) W (hE.far hW)
  have hcb : ∀ W u, Below w.heap.size w W → RV W u k → Calls Tryz.prog 42 #[v, u] W (GetsL s (3 * d + 1) (k * p) (fun n => k * cof cs n) W) := fun W u hW hu => scaleL (h.far hW) hu dk hd (hE.far hW)
  obtain ⟨a1, g1, o1, c1, rfl, -⟩ := h
  obtain ⟨n1, hn1⟩ : ∃ n, cs.length = n := ⟨_, rfl⟩
  rw [hn1] at hv1 hcb ⊢
  clear hn1
  generalize TX p = t1 at *
  generalize TX k = tk at *
  obtain ⟨m1, m2, mb⟩ := newL2 w (.cells #[.int .i64 s, .slice a1 n1 c1, .string t1] 26) (.cells #[.int .i64 0, .slice none 0 0, .string ⟨#[]⟩] 26)
  have HK := Lib.hid (⟨m1, m2, mb⟩ : SB w _ s a1 n1 c1 t1)
  have HV1 := Lib.hid hv1
  have HV2 := Lib.hid hv2
  have HMK := Lib.hid hmk
  have HCB := Lib.hid hcb
  clear m1 m2 mb hv1 hv2 hmk hcb hE
  go_enter Tryz.func14, Tryz.ntmps14
  go_wp2_with fail
  generalize (w.alloc (.cells #[.int .i64 s, .slice a1 n1 c1, .string t1] 26)).alloc (.cells #[.int .i64 0, .slice none 0 0, .string ⟨#[]⟩] 26) = w3 at *
  refine (HV1.out _ HK.out.bel).mono ?_
  rintro e w4 ⟨rfl, hb⟩
  have HK4 := Lib.hid (HK.out.far hb)
  clear hb
  go_wp2_with fail
  refine (HV2.out _ HK4.out.bel).mono ?_
  rintro e w5 ⟨rfl, hb⟩
  have HK5 := Lib.hid (HK4.out.far hb)
  clear hb
  go_wp2_with fail
  refine add_region [[], [], [1], [0, 1, 2], [0, 1, 2, 3], [0, 1, 2, 3, 4]] (fun W => SB w W s a1 n1 c1 t1) (fun _ => True) ?_
  iterate 2
    apply a_con
    · intro x; go_simp; done
    · intro x W R hW hF hR
      have q0 := heap_cell hW.a 0
      have q1 := heap_cell hW.a 1
      have q2 := heap_cell hW.a 2
      clear hF
      unfold addAt
      go_simp
      simp only [addUpon]
      exact hR _ (Below.refl _ _)
    simp only [Act.put, List.setIfInBounds_toArray, List.set_cons_zero, List.set_cons_succ]
  refine a_opq (fun v W => RV W v (k)) (fun _ _ _ h hb => h.far hb) ?_ ?_ ?_
  · intro x; go_simp; done
  · intro x W R hW hF hR
    clear hF
    unfold addAt
    go_simp
    simp only [addUpon]
    refine (HMK.out W hW.bel).mono ?_
    rintro e w' ⟨v, rfl, hv, hb⟩
    exact ⟨v, rfl, hR _ _ hv hb⟩
  simp only [Act.put, List.setIfInBounds_toArray, List.set_cons_zero, List.set_cons_succ, List.length_cons, List.length_nil, Nat.zero_add, Nat.reduceAdd]
  refine a_opq (fun v W => ∃ rs, LV W v s (3 * d + 1) (k * p) rs ∧ ∀ n, cof rs n = k * cof cs n) (fun _ _ _ h hb => let ⟨rs, h1, h2⟩ := h; ⟨rs, h1.far hb, h2⟩) ?_ ?_ ?_
  · intro x; go_simp; done
  · intro x W R hW hF hR
    have hu := hF.1.2 rfl rfl rfl
    simp only [AK.fact] at hu
    clear hF
    unfold addAt
    go_simp
    simp only [addUpon]
    refine (HCB.out W _ hW.bel hu).mono ?_
    rintro e w' ⟨rs, v, rfl, hl, hf, hb⟩
    exact ⟨v, rfl, hR _ _ ⟨rs, hl, hf⟩ hb⟩
  simp only [Act.put, List.setIfInBounds_toArray, List.set_cons_zero, List.set_cons_succ, List.length_cons, List.length_nil, Nat.zero_add, Nat.reduceAdd]
  refine a_wrt (fun _ W => ∃ rs ao n c tx, W.heap[w.heap.size + 1]? = some (.cells #[.int .i64 s, .slice ao n c, .string tx] 26 (0, 0)) ∧ LV W (.agg #[.int .i64 s, .slice ao n c, .string tx]) s (3 * d + 1) (k * p) rs ∧ (∀ n, cof rs n = k * cof cs n) ∧ Below w.heap.size w W) (fun _ _ _ h hb => let ⟨rs, ao, n, c, tx, h1, h2, h3, h4⟩ := h; ⟨rs, ao, n, c, tx, (hb.block _ (lt_of_heap h1)).trans h1, h2.far hb, h3, h4.trans (hb.mono h4.size)⟩) (fun _ _ _ _ h => h) ?_ ?_ ?_
  · intro x; go_simp; done
  · intro x W R hW hF hD hR
    have hL := hF.1.2 rfl rfl rfl
    simp only [AK.fact] at hL
    obtain ⟨rs, hl, hf⟩ := hL
    have HL := Lib.hid hl
    have HF := Lib.hid hf
    obtain ⟨ao, g, off, cap, hx, -⟩ := hl
    have HX := Lib.hid hx
    simp only [hx]
    have z0 := heap_cell hW.r 0
    have z1 := heap_cell hW.r 1
    have z2 := heap_cell hW.r 2
    have fr := fun i => heap_fz hW.r i
    clear hF hf hx
    unfold addAt
    go_simp
    simp only [addUpon]
    refine hR _ _ ⟨rs, ao, _, cap, _, set3_heap hW.r, ?_, HF.out, ?_⟩ trivial (by simp [World.setCell])
    · rw [← HX.out]
      exact HL.out.but hW.r (by decide) (fun g hg => set3_other _ _ _ hg)
    · exact ((hW.bel.setCell (show w.heap.size ≤ w.heap.size + 1 by omega) _).setCell (show w.heap.size ≤ w.heap.size + 1 by omega) _).setCell (show w.heap.size ≤ w.heap.size + 1 by omega) _
  simp only [Act.put]
  apply a_late
  · intro x; go_simp; done
  · intro x W R hW hF hR
    clear hF hW
    unfold addAt
    go_simp
    simp only [addUpon]
    exact hR _ (Below.refl _ _)
  simp only [Act.put, List.setIfInBounds_toArray, List.set_cons_zero, List.set_cons_succ]
  refine a_nil (by kernel_rfl) (by kernel_rfl) (by kernel_rfl) (fun _ _ h hb => h.far hb) (fun _ _ _ _ => trivial) (fun _ _ => trivial) (HK5.out.far (Below.refl _ _).drew) ?_
  intro x W hE hW hF hD
  clear hD
  obtain ⟨rs, ao, n, c, tx, h1, h2, h3, h4⟩ := hF.2.1.2 rfl
  have H1 := Lib.hid h1
  have H2 := Lib.hid h2
  have H3 := Lib.hid h3
  have H4 := Lib.hid h4
  clear hF hW h1 h2 h3 h4
  go_wp2_with fail
  exact end_lin2 rfl rfl rfl rfl H1.out ⟨rs, _, rfl, H2.out, H3.out, H4.out⟩
end
end Go.Proofs.YtgfoljpjdmeooaaGreatDoor

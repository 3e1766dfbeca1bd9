/- Solve. -/
import Derived.Test.YtgfoljpjdmeooaaGreatDoorUTI
import Derived.Test.YtgfoljpjdmeooaaGreatDoorUX
import Derived.Test.YtgfoljpjdmeooaaGreatDoorUTC
import Derived.Test.YtgfoljpjdmeooaaGreatDoorUPF
namespace Go.Proofs.YtgfoljpjdmeooaaGreatDoor
open Go.RowKit Nmx

/-- whole numbers alone -/
def wholeP (c : Rat) (f : List UInt8 → Rat) : Prop := c.den = 1 ∧ ∀ n, (f n).den = 1
def solC (p : Rat) (cs : List (List UInt8 × Rat)) (nm : List UInt8) : Rat := (-1 / cof cs nm) * p
def solF (cs : List (List UInt8 × Rat)) (nm n : List UInt8) : Rat := (-1 / cof cs nm) * (if n = nm then 0 else cof cs n)
def zeroLV : Value := .agg #[.int .i64 0, .slice none 0 0, .string ⟨#[]⟩]
/-- what a solver of equations hands back -/
def SolvePost (r s : Int) (d : Nat) (p : Rat) (cs : List (List UInt8 × Rat)) (nm : List UInt8) (w : World) (e : Ending) (w' : World) : Prop :=
  (nameF nm = false ∧ e = .returned (.tuple #[zeroLV, .int .i64 1]) ∧ Below w.heap.size w w') ∨
  (nameF nm = true ∧ (r ≠ 3 ∨ cof cs nm = 0) ∧ e = .returned (.tuple #[zeroLV, .int .i64 8]) ∧ Below w.heap.size w w') ∨
  (nameF nm = true ∧ r = 3 ∧ cof cs nm ≠ 0 ∧ s = 2 ∧ ¬ wholeP (solC p cs nm) (solF cs nm) ∧ e = .returned (.tuple #[zeroLV, .int .i64 8]) ∧ Below w.heap.size w w') ∨
  (nameF nm = true ∧ r = 3 ∧ cof cs nm ≠ 0 ∧ (s = 2 → wholeP (solC p cs nm) (solF cs nm)) ∧ GetsLE s (3 * d + 4) (solC p cs nm) (solF cs nm) w e w')
theorem wholeF_iff {c : Rat} {rs : List (List UInt8 × Rat)} {f : List UInt8 → Rat} (hc : Can ltB rs) (hf : ∀ n, cof rs n = f n) : wholeF c rs = true ↔ wholeP c f := by
  unfold wholeF wholeP
  rw [Bool.and_eq_true, List.all_eq_true, decide_eq_true_eq]
  refine ⟨fun ⟨h1, h2⟩ => ⟨h2, fun n => ?_⟩, fun ⟨h1, h2⟩ => ⟨fun x hx => ?_, h1⟩⟩
  · rw [← hf n]
    by_cases hn : ∃ x ∈ rs, x.1 = n
    · obtain ⟨x, hx, rfl⟩ := hn
      obtain ⟨i, hi, rfl⟩ := List.getElem_of_mem hx
      rw [cof_at hc hi rfl]
      exact of_decide_eq_true (h1 _ hx)
    · rw [cof_none fun x hx e => hn ⟨x, hx, e⟩]
      rfl
  · obtain ⟨i, hi, rfl⟩ := List.getElem_of_mem hx
    rw [← cof_at hc hi rfl, hf]
    exact decide_eq_true (h2 _)
theorem cof_ds {d : Nat} {l : List (List UInt8 × Rat)} (h : Good d l) (n : List UInt8) : DS d (cof l n) := by
  by_cases hn : ∃ x ∈ l, x.1 = n
  · obtain ⟨x, hx, rfl⟩ := hn
    obtain ⟨i, hi, rfl⟩ := List.getElem_of_mem hx
    rw [cof_at h.can hi rfl]
    exact h.ds _ hx
  · rw [cof_none fun x hx e => hn ⟨x, hx, e⟩]
    exact DS.zero d
theorem lvIn {w : World} {s s' : Int} {d n c : Nat} {ao : Option Addr} {tx : ByteArray} {q : Rat} {cs : List (List UInt8 × Rat)} (h : LV w (.agg #[.int .i64 s', .slice ao n c, .string tx]) s d q cs) : n = cs.length ∧ tx = TX q ∧ ∃ g off, CSl w ao g off c cs := by
  obtain ⟨ao', g, off, cap, he, hC, -, -, -⟩ := h
  injection he with he
  injection he with he
  injection he with _ he
  injection he with he2 he
  injection he with he3 he
  injection he2 with e1 e2 e3
  injection he3 with e4
  subst e1 e3 e4 e2
  exact ⟨rfl, rfl, g, off, hC⟩
theorem lvOpen {w : World} {v : Value} {s : Int} {d : Nat} {c : Rat} {cs : List (List UInt8 × Rat)} (h : LV w v s d c cs) : ∃ ao n cap tx, v = .agg #[.int .i64 s, .slice ao n cap, .string tx] :=
  let ⟨ao, _, _, cap, hv, _⟩ := h
  ⟨ao, _, cap, _, hv⟩
/-- an expression and an error are handed back -/
theorem end_linE {fn : Func} {t u : Tmp} {a : Act} {w2 : World} {R : Nat} {s z : Int} {ao : Option Addr} {n c : Nat} {tx : ByteArray} {post : Ending → World → Prop} (hres : fn.results = #[.cell t 26, .tmp u]) (hd : a.defers = []) (ht : a.tmps.getD t undef = .pointer (some ⟨R, 0, none⟩)) (hu : a.tmps.getD u undef = .int .i64 z)
    (hR : w2.heap[R]? = some (.cells #[.int .i64 s, .slice ao n c, .string tx] 26 (0, 0))) (h : post (.returned (.tuple #[.agg #[.int .i64 s, .slice ao n c, .string tx], .int .i64 z])) w2) :
    bodyPost Tryz.prog fn post .ret a w2 := by
  have k0 := heap_cell hR 0
  have k1 := heap_cell hR 1
  have k2 := heap_cell hR 2
  simp at k0 k1 k2
  refine bodyPost_ret (v := .tuple #[.agg #[.int .i64 s, .slice ao n c, .string tx], .int .i64 z]) ?_ hd h
  have ht' : a.tmps[t]?.getD undef = .pointer (some ⟨R, 0, none⟩) := by simpa using ht
  have hu' : a.tmps[u]?.getD undef = .int .i64 z := by simpa using hu
  simp [results, hres, go_sem, ht', hu', k0, k1, k2]
/-- the boxes of Solve -/
structure SV (w W : World) (r s : Int) (a1 : Option Addr) (n1 c1 : Nat) (t1 tm : ByteArray) : Prop where
  a : W.heap[w.heap.size]? = some (.cells #[.int .i64 r, .int .i64 s, .slice a1 n1 c1, .string t1, .string tm] 39 (0, 0))
  r : W.heap[w.heap.size + 1]? = some (.cells #[.int .i64 0, .slice none 0 0, .string ⟨#[]⟩] 26 (0, 0))
  bel : Below w.heap.size w W
theorem SV.far {w W W' : World} {r s : Int} {a1 : Option Addr} {n1 c1 : Nat} {t1 tm : ByteArray} (h : SV w W r s a1 n1 c1 t1 tm) (hb : Below W.heap.size W W') : SV w W' r s a1 n1 c1 t1 tm :=
  ⟨(hb.block _ (lt_of_heap h.a)).trans h.a, (hb.block _ (lt_of_heap h.r)).trans h.r, h.bel.trans (hb.mono h.bel.size)⟩
/-- .. the coefficient and the rest -/
structure SK (w W : World) (K : Nat) (r s : Int) (a1 : Option Addr) (n1 c1 : Nat) (t1 tm : ByteArray) (s1 : Int) (b1 : Bool) (a2 : Option Addr) (n2 c2 : Nat) (s2 : Int) (b2 : Bool) (a3 : Option Addr) (n3 c3 : Nat) (s4 : Int) (a4 : Option Addr) (n4 c4 : Nat) (t4 : ByteArray) (d : Nat) (k p : Rat) (rs : List (List UInt8 × Rat)) : Prop where
  sv : SV w W r s a1 n1 c1 t1 tm
  hk : W.heap[K]? = some (.cells #[.int .i64 s1, .bool b1, .slice a2 n2 c2, .int .i64 s2, .bool b2, .slice a3 n3 c3] 72 (0, 0))
  hl : W.heap[K + 1]? = some (.cells #[.int .i64 s4, .slice a4 n4 c4, .string t4] 26 (0, 0))
  rv : RV W (.agg #[.int .i64 s1, .bool b1, .slice a2 n2 c2, .int .i64 s2, .bool b2, .slice a3 n3 c3]) k
  lv : LV W (.agg #[.int .i64 s4, .slice a4 n4 c4, .string t4]) s d p rs
theorem SK.far {w W W' : World} {K : Nat} {r s : Int} {a1 : Option Addr} {n1 c1 : Nat} {t1 tm : ByteArray} {s1 : Int} {b1 : Bool} {a2 : Option Addr} {n2 c2 : Nat} {s2 : Int} {b2 : Bool} {a3 : Option Addr} {n3 c3 : Nat} {s4 : Int} {a4 : Option Addr} {n4 c4 : Nat} {t4 : ByteArray} {d : Nat} {k p : Rat} {rs : List (List UInt8 × Rat)} (h : SK w W K r s a1 n1 c1 t1 tm s1 b1 a2 n2 c2 s2 b2 a3 n3 c3 s4 a4 n4 c4 t4 d k p rs) (hb : Below W.heap.size W W') : SK w W' K r s a1 n1 c1 t1 tm s1 b1 a2 n2 c2 s2 b2 a3 n3 c3 s4 a4 n4 c4 t4 d k p rs :=
  ⟨h.sv.far hb, (hb.block _ (lt_of_heap h.hk)).trans h.hk, (hb.block _ (lt_of_heap h.hl)).trans h.hl, h.rv.far hb, h.lv.far hb⟩
section
set_option maxRecDepth 100000
set_option maxHeartbeats 8000000
theorem smallNeg (W : World) : Calls Tryz.prog 72 #[.int .i64 (-1)] W (GetsQ (-1) W) := by
  have hb0 : Below W.heap.size W (W.alloc (.cells #[.int .i64 0, .bool false, .slice none 0 0, .int .i64 0, .bool false, .slice none 0 0] 72)) := (Below.refl _ _).alloc (Nat.le_refl _) _
  have hfi := fromInt64_any (-1) (W.alloc (.cells #[.int .i64 0, .bool false, .slice none 0 0, .int .i64 0, .bool false, .slice none 0 0] 72)) (by omega) (by omega)
  have HB0 := Lib.hid hb0
  have HR0 := Lib.hid (heap_alloc_new W (.cells #[.int .i64 0, .bool false, .slice none 0 0, .int .i64 0, .bool false, .slice none 0 0] 72))
  clear hb0
  go_enter Tryz.func72, Tryz.ntmps72
  go_wp2_with fail
  refine hfi.mono ?_
  rintro e w1 ⟨v1, rfl, hv1, hb1⟩
  have HI := Lib.hid hv1
  obtain ⟨s1, b1, a1, n1, c1, rfl⟩ := iv_form hv1
  have hR := (hb1.block _ (lt_of_heap HR0.out)).trans HR0.out
  have HR := Lib.hid hR
  have HB := Lib.hid (HB0.out.trans (hb1.mono HB0.out.size))
  have r0 := heap_cell hR 0
  have r1 := heap_cell hR 1
  have r2 := heap_cell hR 2
  have r3 := heap_cell hR 3
  have r4 := heap_cell hR 4
  have r5 := heap_cell hR 5
  have fr := fun i => heap_fz hR i
  clear hv1 hb1 hfi hR
  go_wp2
  exact end_rat Tryz.results72 rfl rfl HR.out (by rw [show (-1 : Rat).num = -1 from rfl]; exact HI.out) (by rw [denI_one (show (-1 : Rat).den = 1 from rfl)]; exact zeroIV _) HB.out (Nat.le_refl _)
theorem solve_any {d : Nat} {w : World} {r s : Int} {a1 : Option Addr} {n1 c1 : Nat} {t1 tm : ByteArray} {p : Rat} {cs : List (List UInt8 × Rat)} (nm : List UInt8) (h : LV w (.agg #[.int .i64 s, .slice a1 n1 c1, .string t1]) s d p cs) (hk : ConOk r s tm) (hd : d ≤ 200) (hE : Env w) :
    Calls Tryz.prog 35 #[.agg #[.int .i64 r, .int .i64 s, .slice a1 n1 c1, .string t1, .string tm], .string ⟨nm.toArray⟩] w (SolvePost r s d p cs nm w) := by
  have hvl : ∀ W, Below w.heap.size w W → Calls Tryz.prog 27 #[.agg #[.int .i64 r, .int .i64 s, .slice a1 n1 c1, .string t1, .string tm]] W fun e w' => e = .returned (.bool true) ∧ Below W.heap.size W w' := fun W hW => validC (h.far hW) hk (by omega) (hE.far hW)
  have hsp : ∀ W, Below w.heap.size w W → Calls Tryz.prog 66 #[.agg #[.int .i64 s, .slice a1 n1 c1, .string t1], .string ⟨nm.toArray⟩] W (GetsKL (cof cs nm) s d p (fun n => if n = nm then 0 else cof cs n) W) := fun W hW => split_any nm (h.far hW) (by omega) (hE.far hW)
  have hnm : ∀ W, Calls Tryz.prog 56 #[.string ⟨nm.toArray⟩] W fun e w' => e = .returned (.bool (nameF nm)) ∧ w' = W := fun W => by
    have := isName_any ⟨nm.toArray⟩ W
    rwa [toList_mk] at this
  have HVL := Lib.hid hvl
  have HSP := Lib.hid hsp
  have HNM := Lib.hid hnm
  have HDK : Hid (DS d (cof cs nm)) := Lib.hid (cof_ds h.good.1 nm)
  have HE := Lib.hid hE
  obtain ⟨m1, m2, mb⟩ := newL2 w (.cells #[.int .i64 r, .int .i64 s, .slice a1 n1 c1, .string t1, .string tm] 39) (.cells #[.int .i64 0, .slice none 0 0, .string ⟨#[]⟩] 26)
  have HV := Lib.hid (⟨m1, m2, mb⟩ : SV w _ r s a1 n1 c1 t1 tm)
  have HKS : Hid (s = 2 ∨ s = 3) := Lib.hid hk.1
  obtain ⟨tn, htn⟩ : ∃ t : ByteArray, ⟨nm.toArray⟩ = t := ⟨_, rfl⟩
  rw [htn] at HSP HNM ⊢
  clear htn hvl hsp hnm h hk hE m1 m2 mb
  go_enter Tryz.func35, Tryz.ntmps35
  go_wp2_with fail
  generalize (w.alloc (.cells #[.int .i64 r, .int .i64 s, .slice a1 n1 c1, .string t1, .string tm] 39)).alloc (.cells #[.int .i64 0, .slice none 0 0, .string ⟨#[]⟩] 26) = w1 at *
  refine (HVL.out w1 HV.out.bel).mono ?_
  rintro e w2 ⟨rfl, hb⟩
  replace HV := Lib.hid (HV.out.far hb)
  clear hb
  go_wp2_with fail
  refine (HNM.out w2).mono ?_
  rintro e w3 ⟨rfl, rfl⟩
  by_cases hn : nameF nm = false
  · have HN := Lib.hid hn
    rw [hn]
    have x0 := heap_cell HV.out.r 0
    have x1 := heap_cell HV.out.r 1
    have x2 := heap_cell HV.out.r 2
    have fr := fun i => heap_fz HV.out.r i
    clear hn
    go_wp2_with fail
    refine end_linE rfl rfl rfl rfl (set3_heap HV.out.r) ?_
    exact .inl ⟨HN.out, rfl, ((HV.out.bel.setCell (show w.heap.size ≤ w.heap.size + 1 by omega) _).setCell (show w.heap.size ≤ w.heap.size + 1 by omega) _).setCell (show w.heap.size ≤ w.heap.size + 1 by omega) _⟩
  have hn1 : nameF nm = true := by simpa using hn
  have HN := Lib.hid hn1
  rw [hn1]
  clear hn hn1
  have x1 := heap_cell HV.out.a 1
  have x2 := heap_cell HV.out.a 2
  have x3 := heap_cell HV.out.a 3
  go_wp2_with fail
  refine (HSP.out w3 HV.out.bel).mono ?_
  rintro e w4 ⟨rs, u, v, rfl, hu, hv, hf, hb⟩
  replace HV := Lib.hid (HV.out.far hb)
  have HU := Lib.hid hu
  have HVV := Lib.hid hv
  have HF := Lib.hid hf
  obtain ⟨s1, b1, a2, n2, c2, s2, b2, a3, n3, c3, rfl, -⟩ := rv_form hu
  obtain ⟨a4, n4, c4, t4, rfl⟩ := lvOpen hv
  have hal1 : Below w4.heap.size w4 (w4.alloc (.cells #[.int .i64 s1, .bool b1, .slice a2 n2 c2, .int .i64 s2, .bool b2, .slice a3 n3 c3] 72)) := (Below.refl _ _).alloc (Nat.le_refl _) _
  have hal := hal1.alloc hal1.size (.cells #[.int .i64 s, .slice a4 n4 c4, .string t4] 26)
  have HK := Lib.hid (⟨HV.out.far hal, heap_al (heap_alloc_new _ _) _, by have := heap_alloc_new (w4.alloc (.cells #[.int .i64 s1, .bool b1, .slice a2 n2 c2, .int .i64 s2, .bool b2, .slice a3 n3 c3] 72)) (.cells #[.int .i64 s, .slice a4 n4 c4, .string t4] 26); simpa using this, HU.out.far hal, HVV.out.far hal⟩ : SK w _ w4.heap.size r s a1 n1 c1 t1 tm s1 b1 a2 n2 c2 s2 b2 a3 n3 c3 s a4 n4 c4 t4 d (cof cs nm) p rs)
  have y0 := heap_cell HV.out.a 0
  clear hu hv hf hb hal hal1 HU HVV x1 x2 x3
  go_upto_region 4 with fail
  generalize (w4.alloc (.cells #[.int .i64 s1, .bool b1, .slice a2 n2 c2, .int .i64 s2, .bool b2, .slice a3 n3 c3] 72)).alloc (.cells #[.int .i64 s, .slice a4 n4 c4, .string t4] 26) = w5 at *
  have HLK : Hid (w.heap.size + 1 < w4.heap.size) := Lib.hid (lt_of_heap HV.out.r)
  generalize w4.heap.size = K at *
  clear HV y0
  have y0 := heap_cell HK.out.sv.a 0
  have x0 := heap_cell HK.out.sv.r 0
  have x1 := heap_cell HK.out.sv.r 1
  have x2 := heap_cell HK.out.sv.r 2
  have fr := fun i => heap_fz HK.out.sv.r i
  by_cases hr : r = 3
  case neg =>
    have hr1 : (r == 3) = false := by rw [beq_eq_false_iff_ne]; exact hr
    have hr2 : decide (r = 3) = false := decide_eq_false hr
    have HR := Lib.hid hr
    have hr3 : (r != 3) = true := by rw [bne, hr1]; rfl
    clear hr
    go_wp2_with fail
    refine end_linE rfl rfl rfl rfl (set3_heap HK.out.sv.r) ?_
    exact .inr (.inl ⟨HN.out, .inl HR.out, rfl, ((HK.out.sv.bel.setCell (show w.heap.size ≤ w.heap.size + 1 by omega) _).setCell (show w.heap.size ≤ w.heap.size + 1 by omega) _).setCell (show w.heap.size ≤ w.heap.size + 1 by omega) _⟩)
  subst hr
  have z0 := heap_cell HK.out.hk 0
  have z1 := heap_cell HK.out.hk 1
  have z2 := heap_cell HK.out.hk 2
  have z3 := heap_cell HK.out.hk 3
  have z4 := heap_cell HK.out.hk 4
  have z5 := heap_cell HK.out.hk 5
  go_wp2_with fail
  refine (ratIsZero_any _ _ w5 HK.out.rv).mono ?_
  rintro e w6 ⟨rfl, hb⟩
  replace HK := Lib.hid (HK.out.far hb)
  clear hb x0 x1 x2 fr y0 z0 z1 z2 z3 z4 z5
  have x0 := heap_cell HK.out.sv.r 0
  have x1 := heap_cell HK.out.sv.r 1
  have x2 := heap_cell HK.out.sv.r 2
  have fr := fun i => heap_fz HK.out.sv.r i
  by_cases hz : cof cs nm = 0
  · have HZ := Lib.hid hz
    rw [decide_eq_true (by rw [hz]; rfl)]
    clear hz
    go_wp2_with fail
    refine end_linE rfl rfl rfl rfl (set3_heap HK.out.sv.r) ?_
    exact .inr (.inl ⟨HN.out, .inr HZ.out, rfl, ((HK.out.sv.bel.setCell (show w.heap.size ≤ w.heap.size + 1 by omega) _).setCell (show w.heap.size ≤ w.heap.size + 1 by omega) _).setCell (show w.heap.size ≤ w.heap.size + 1 by omega) _⟩)
  have hzn : (cof cs nm).num ≠ 0 := fun e => hz (Rat.num_eq_zero.1 e)
  have HZ := Lib.hid hz
  rw [decide_eq_false hzn]
  have hdv : ∀ W u v, RV W u (-1) → RV W v (cof cs nm) → Calls Tryz.prog 73 #[u, v] W (GetsQ (-1 / cof cs nm) W) := fun W u v hu hv => ratDiv_any _ _ (-1) (cof cs nm) W hu hv (ds_rs (k := 300) (DS.one (d := 1) (by decide)).neg (by omega)) (ds_rs (k := 300) HDK.out (by omega)) (by omega) hzn
  have hdf : DS (d + 1) (-1 / cof cs nm) := by
    have := ((DS.one (d := 1) (by decide)).neg).div HDK.out hzn
    rwa [Nat.add_comm] at this
  have HDV := Lib.hid hdv
  have hsc : ∀ W u v, Below w.heap.size w W → LV W v s d p rs → RV W u (-1 / cof cs nm) → Calls Tryz.prog 42 #[v, u] W (GetsL s (3 * (d + 1) + 1) (solC p cs nm) (solF cs nm) W) := fun W u v hb hv hu => by
    refine (scaleL (hv.mono (Nat.le_succ d)) hu hdf (by omega) (HE.out.far hb)).mono ?_
    rintro e w' ⟨rs', v', h1, h2, h3, h4⟩
    refine ⟨rs', v', h1, h2, fun n => ?_, h4⟩
    have e1 := h3 n
    have e2 := HF.out n
    dsimp only at e1 e2
    rw [e1, e2]
    rfl
  have HSC := Lib.hid hsc
  clear hz hzn hdv hdf hsc x0 x1 x2 fr
  go_wp2_with fail
  refine add_region [[], [], [], [1, 2], [0, 1, 2, 3], [], [0, 1, 2, 3, 4, 5]] (fun W => SK w W K 3 s a1 n1 c1 t1 tm s1 b1 a2 n2 c2 s2 b2 a3 n3 c3 s a4 n4 c4 t4 d (cof cs nm) p rs) (fun _ => True) ?_
  apply a_con
  · intro x; go_simp; done
  · intro x W R hW hF hR
    have p0 := heap_cell hW.hl 0
    have p1 := heap_cell hW.hl 1
    have p2 := heap_cell hW.hl 2
    clear hF
    unfold addAt
    go_simp
    simp only [addUpon]
    exact hR _ (Below.refl _ _)
  simp only [Act.put, List.setIfInBounds_toArray, List.set_cons_zero, List.set_cons_succ]
  refine a_opq (fun v W => RV W v (-1)) (fun _ _ _ h hb => h.far hb) ?_ ?_ ?_
  · intro x; go_simp; done
  · intro x W R hW hF hR
    clear hF
    unfold addAt
    go_simp
    simp only [addUpon]
    refine (smallNeg W).mono ?_
    rintro e w' ⟨v, rfl, hv, hb⟩
    exact ⟨v, rfl, hR _ _ hv hb⟩
  simp only [Act.put, List.setIfInBounds_toArray, List.set_cons_zero, List.set_cons_succ, List.length_cons, List.length_nil, Nat.zero_add]
  apply a_con
  · intro x; go_simp; done
  · intro x W R hW hF hR
    have p0 := heap_cell hW.hk 0
    have p1 := heap_cell hW.hk 1
    have p2 := heap_cell hW.hk 2
    have p3 := heap_cell hW.hk 3
    have p4 := heap_cell hW.hk 4
    have p5 := heap_cell hW.hk 5
    clear hF
    unfold addAt
    go_simp
    simp only [addUpon]
    exact hR _ (Below.refl _ _)
  simp only [Act.put, List.setIfInBounds_toArray, List.set_cons_zero, List.set_cons_succ]
  refine a_opq (fun v W => RV W v (-1 / cof cs nm)) (fun _ _ _ h hb => h.far hb) ?_ ?_ ?_
  · intro x; go_simp; done
  · intro x W R hW hF hR
    have hu := hF.2.1.2 rfl rfl rfl
    simp only [AK.fact] at hu
    clear hF
    unfold addAt
    go_simp
    simp only [addUpon]
    refine (HDV.out W _ _ hu hW.rv).mono ?_
    rintro e w' ⟨v, rfl, hv, hb⟩
    exact ⟨v, rfl, hR _ _ hv hb⟩
  simp only [Act.put, List.setIfInBounds_toArray, List.set_cons_zero, List.set_cons_succ, List.length_cons, List.length_nil, Nat.zero_add, Nat.reduceAdd]
  refine a_opq (fun v W => ∃ rs, LV W v s (3 * (d + 1) + 1) (solC p cs nm) rs ∧ ∀ n, cof rs n = solF cs nm n) (fun _ _ _ h hb => let ⟨rs, h1, h2⟩ := h; ⟨rs, h1.far hb, h2⟩) ?_ ?_ ?_
  · intro x; go_simp; done
  · intro x W R hW hF hR
    have hu := hF.1.2 rfl rfl rfl
    simp only [AK.fact] at hu
    clear hF
    unfold addAt
    go_simp
    simp only [addUpon]
    refine (HSC.out W _ _ hW.sv.bel hW.lv hu).mono ?_
    rintro e w' ⟨rs, v, rfl, hl, hf, hb⟩
    exact ⟨v, rfl, hR _ _ ⟨rs, hl, hf⟩ hb⟩
  simp only [Act.put, List.setIfInBounds_toArray, List.set_cons_zero, List.set_cons_succ, List.length_cons, List.length_nil, Nat.zero_add, Nat.reduceAdd]
  refine a_new (fun B W => w.heap.size + 1 < B ∧ W.heap[B]? = some (.cells #[.int .i64 0, .slice none 0 0, .string ⟨#[]⟩] 26 (0, 0))) (fun _ _ _ h hb => ⟨h.1, (hb.block _ (lt_of_heap h.2)).trans h.2⟩) ?_ ?_ ?_
  · intro x; go_simp; done
  · intro x W R hW hF hR
    clear hF
    unfold addAt
    go_simp
    simp only [addUpon]
    exact hR _ ⟨lt_of_heap hW.sv.r, heap_alloc_new _ _⟩ ((Below.refl _ _).alloc (Nat.le_refl _) _) (by simp)
  simp only [Act.put, List.setIfInBounds_toArray, List.set_cons_zero, List.set_cons_succ, List.length_cons, List.length_nil, Nat.zero_add, Nat.reduceAdd]
  refine a_wrt (fun x W => ∃ L rs ao n c tx, x 5 = .pointer (some ⟨L, 0, none⟩) ∧ w.heap.size + 1 < L ∧ W.heap[L]? = some (.cells #[.int .i64 s, .slice ao n c, .string tx] 26 (0, 0)) ∧ LV W (.agg #[.int .i64 s, .slice ao n c, .string tx]) s (3 * (d + 1) + 1) (solC p cs nm) rs ∧ (∀ n, cof rs n = solF cs nm n) ∧ SV w W 3 s a1 n1 c1 t1 tm) (fun _ _ _ h hb => let ⟨L, rs, ao, n, c, tx, h1, h2, h3, h4, h5, h6⟩ := h; ⟨L, rs, ao, n, c, tx, h1, h2, (hb.block _ (lt_of_heap h3)).trans h3, h4.far hb, h5, h6.far hb⟩) (fun x x' w hx hT => let ⟨L, rs, ao, n, c, tx, h1, h⟩ := hT; ⟨L, rs, ao, n, c, tx, (hx 5 (.inr (List.contains_iff_mem.1 rfl))).symm.trans h1, h⟩) ?_ ?_ ?_
  · intro x; go_simp; done
  · intro x W R hW hF hD hR
    have hb := hF.1.2 rfl rfl rfl
    have hl := hF.2.1.2 rfl rfl rfl
    simp only [AK.fact] at hb hl
    obtain ⟨L, hx5, hlt, hL⟩ := hb
    obtain ⟨rs2, hlv, hcf⟩ := hl
    obtain ⟨ao, n, c, tx, hx⟩ := lvOpen hlv
    simp only [hx5, hx]
    rw [hx] at hlv
    have e0 := heap_cell hL 0
    have e1 := heap_cell hL 1
    have e2 := heap_cell hL 2
    have fr := fun i => heap_fz hL i
    clear hF hD
    unfold addAt
    go_simp
    simp only [addUpon]
    have ho : ∀ g, g ≠ L → (((W.setCell ⟨L, 0, none⟩ (.int .i64 s)).setCell ⟨L, 1, none⟩ (.slice ao n c)).setCell ⟨L, 2, none⟩ (.string tx)).heap[g]? = W.heap[g]? := fun g hg => set3_other _ _ _ hg
    have hbl := ((hW.sv.bel.setCell (show w.heap.size ≤ L by omega) (p := ⟨L, 0, none⟩) (.int .i64 s)).setCell (p := ⟨L, 1, none⟩) (show w.heap.size ≤ L by omega) (.slice ao n c)).setCell (p := ⟨L, 2, none⟩) (show w.heap.size ≤ L by omega) (.string tx)
    exact hR _ _ ⟨L, rs2, ao, n, c, tx, (updX_ne (i := 6) (j := 5) _ _ (by decide)).trans hx5, hlt, set3_heap hL, hlv.but hL (by decide) ho, hcf, ⟨(ho _ (by omega)).trans hW.sv.a, (ho _ (by omega)).trans hW.sv.r, hbl⟩⟩ trivial (by simp [World.setCell])
  simp only [Act.put]
  refine a_nil (by kernel_rfl) (by kernel_rfl) (by kernel_rfl) (fun _ _ h hb => h.far hb) (fun _ _ _ _ => trivial) (fun _ _ => trivial) (HK.out.far (Below.refl _ _).drew) ?_
  intro x W hEE hW hF hD
  clear hD hEE hW
  obtain ⟨L, rs2, ao, n, c, tx, hx5, hlt, hL, hlv, hcf, hsv⟩ := hF.1.2 rfl
  simp only [hx5]
  have HL := Lib.hid hL
  have HLV := Lib.hid hlv
  have HCF := Lib.hid hcf
  have HS := Lib.hid hsv
  have HLL := Lib.hid hlt
  clear hF hx5 hL hlv hcf hsv HK HDV HSC hlt
  have x0 := heap_cell HS.out.r 0
  have x1 := heap_cell HS.out.r 1
  have x2 := heap_cell HS.out.r 2
  have fr := fun i => heap_fz HS.out.r i
  have l0 := heap_cell HL.out 0
  have l1 := heap_cell HL.out 1
  have l2 := heap_cell HL.out 2
  rcases HKS.out with hs | hs
  case inr =>
    subst hs
    go_wp2_with fail
    refine end_linE rfl rfl rfl rfl (set3_heap HS.out.r) ?_
    exact .inr (.inr (.inr ⟨HN.out, rfl, HZ.out, fun h => absurd h (by decide), rs2, _, rfl, (HLV.out.but HS.out.r (by decide) (fun g hg => set3_other _ _ _ hg)).mono (by omega), HCF.out, ((HS.out.bel.setCell (show w.heap.size ≤ w.heap.size + 1 by omega) _).setCell (show w.heap.size ≤ w.heap.size + 1 by omega) _).setCell (show w.heap.size ≤ w.heap.size + 1 by omega) _⟩))
  subst hs
  obtain ⟨hn, htx, g, off, hC⟩ := lvIn HLV.out
  have HC := Lib.hid hC
  have HLN := Lib.hid hn
  have HGO := Lib.hid HLV.out.good
  have hic : ∀ U, Below w.heap.size w U → Calls Tryz.prog 21 #[.string tx] U fun e w' => e = .returned (.bool (decide ((solC p cs nm).den = 1))) ∧ Below U.heap.size U w' := fun U hU => by
    rw [htx]
    exact numIsIntT HGO.out.2 (by omega) U (HE.out.far hU)
  have HIC := Lib.hid hic
  have HWI : Hid (wholeF (solC p cs nm) rs2 = true ↔ wholeP (solC p cs nm) (solF cs nm)) := Lib.hid (wholeF_iff HGO.out.1.can HCF.out)
  have hn4 : n ≤ 4 := by rw [hn]; exact can_len HGO.out.1.can HGO.out.1.nm
  clear hn htx hC hic
  go_wp2_with fail
  refine (HIC.out W HS.out.bel).mono ?_
  rintro e w8 ⟨rfl, hb⟩
  obtain ⟨bc, hbc⟩ : ∃ b, decide ((solC p cs nm).den = 1) = b := ⟨_, rfl⟩
  have HBC := Lib.hid hbc
  rw [hbc]
  replace HS := Lib.hid (HS.out.far hb)
  replace HL := Lib.hid ((hb.block _ (lt_of_heap HL.out)).trans HL.out)
  replace HLV := Lib.hid (HLV.out.far hb)
  replace HC := Lib.hid (HC.out.far hb)
  clear hb hbc x0 x1 x2 fr l0 l1 l2 HIC
  have l1 := heap_cell HL.out 1
  go_upto_block 1 with fail
  clear l1
  go_loopg [9, 50] n (fun gh v9 v50 wr => ∃ (j : Nat) (b : Bool), gh = n - j ∧ j ≤ n ∧ v9 = .bool b ∧ v50 = .int .i64 j ∧ b = ((rs2.take j).all (fun x => decide (x.2.den = 1)) && bc) ∧ Below w8.heap.size w8 wr)
  case atStart => exact ⟨0, bc, rfl, Nat.zero_le _, rfl, rfl, rfl, Below.refl _ _⟩
  case round =>
    obtain ⟨j, b, rfl, hj, rfl, rfl, hbj, hb⟩ := hrel
    have HB := Lib.hid hbj
    have HBL := Lib.hid hb
    clear hbj hb
    have hj0 : (0 : Int) ≤ (j : Int) := by omega
    by_cases hjn : j < n
    · have hjn' : (j : Int) < (n : Int) := by omega
      have hcs : j < rs2.length := by rw [← HLN.out]; exact hjn
      have had := HC.out.ad (by have := HC.out.le; omega)
      subst had
      have c0 := (HC.out.far HBL.out).nm j hcs
      have c1' := (HC.out.far HBL.out).nu j hcs
      have hni : ∀ U, Below w8.heap.size w8 U → Calls Tryz.prog 21 #[.string (TX rs2[j].2)] U fun e w' => e = .returned (.bool (decide (rs2[j].2.den = 1))) ∧ Below U.heap.size U w' := fun U hU => numIsIntT (HGO.out.1.ds _ (List.getElem_mem hcs)) (by omega) U (HE.out.far (HS.out.bel.trans (hU.mono HS.out.bel.size)))
      have HNI := Lib.hid hni
      have hst : ((rs2.take (j + 1)).all (fun x => decide (x.2.den = 1)) && bc) = (decide (rs2[j].2.den = 1) && b) := by
        rw [HB.out, List.take_succ_eq_append_getElem hcs, List.all_append]
        simp only [List.all_cons, List.all_nil, Bool.and_true]
        generalize (rs2.take j).all (fun x => decide (x.2.den = 1)) = P
        generalize decide (rs2[j].2.den = 1) = Q
        clear HB HBC
        cases P <;> cases Q <;> cases bc <;> rfl
      have HST := Lib.hid hst
      clear hni hst
      generalize (⟨rs2[j].1.toArray⟩ : ByteArray) = tk at *
      generalize TX rs2[j].2 = tq at *
      obtain ⟨bk, hbk⟩ : ∃ b, decide (rs2[j].2.den = 1) = b := ⟨_, rfl⟩
      rw [hbk] at HNI HST
      clear hbk
      have hal : Below wr.heap.size wr (wr.alloc (.cells #[.string tk, .string tq] 66)) := (Below.refl _ _).alloc (Nat.le_refl _) _
      have HAL := Lib.hid (HBL.out.trans (hal.mono HBL.out.size))
      clear hal
      cases b
      · go_wp2_with fail
        go_roundg (n - (j + 1))
        case rel => exact ⟨j + 1, false, rfl, by omega, rfl, by go_num, by rw [HST.out, Bool.and_false], HAL.out⟩
        case measure => omega
      · go_wp2_with fail
        refine (HNI.out _ HAL.out).mono ?_
        rintro e w9 ⟨rfl, hb⟩
        have HB9 := Lib.hid (HAL.out.trans (hb.mono HAL.out.size))
        clear hb c0 c1'
        go_wp2_with fail
        go_roundg (n - (j + 1))
        case rel => exact ⟨j + 1, bk, rfl, by omega, rfl, by go_num, by rw [HST.out, Bool.and_true], HB9.out⟩
        case measure => omega
    · obtain rfl : j = n := by omega
      have hjn' : ¬ ((j : Int) < (j : Int)) := by omega
      have hwb : wholeF (solC p cs nm) rs2 = b := by
        unfold wholeF
        rw [HBC.out, HB.out, List.take_of_length_le (Nat.le_of_eq HLN.out.symm)]
      have HWB := Lib.hid hwb
      clear hwb
      have HS2 := Lib.hid (HS.out.far HBL.out)
      have HL2 := Lib.hid ((HBL.out.block _ (lt_of_heap HL.out)).trans HL.out)
      have HLV2 := Lib.hid (HLV.out.far HBL.out)
      have x0 := heap_cell HS2.out.r 0
      have x1 := heap_cell HS2.out.r 1
      have x2 := heap_cell HS2.out.r 2
      have fr := fun i => heap_fz HS2.out.r i
      have l0 := heap_cell HL2.out 0
      have l1 := heap_cell HL2.out 1
      have l2 := heap_cell HL2.out 2
      cases b
      · go_wp2_with fail
        refine end_linE rfl rfl rfl rfl (set3_heap HS2.out.r) ?_
        exact .inr (.inr (.inl ⟨HN.out, rfl, HZ.out, rfl, fun h => by have := HWI.out.2 h; rw [HWB.out] at this; exact Bool.false_ne_true this, rfl, ((HS2.out.bel.setCell (show w.heap.size ≤ w.heap.size + 1 by omega) _).setCell (show w.heap.size ≤ w.heap.size + 1 by omega) _).setCell (show w.heap.size ≤ w.heap.size + 1 by omega) _⟩))
      · go_wp2_with fail
        refine end_linE rfl rfl rfl rfl (set3_heap HS2.out.r) ?_
        exact .inr (.inr (.inr ⟨HN.out, rfl, HZ.out, fun _ => HWI.out.1 HWB.out, rs2, _, rfl, (HLV2.out.but HS2.out.r (by decide) (fun g hg => set3_other _ _ _ hg)).mono (by omega), HCF.out, ((HS2.out.bel.setCell (show w.heap.size ≤ w.heap.size + 1 by omega) _).setCell (show w.heap.size ≤ w.heap.size + 1 by omega) _).setCell (show w.heap.size ≤ w.heap.size + 1 by omega) _⟩))
end
end Go.Proofs.YtgfoljpjdmeooaaGreatDoor

/- split: the coefficient of a variable and the expression without it. -/
import Derived.Test.YteoklapcifonaaaGreatDoorWMJ
import Derived.Test.YteoklapcifonaaaGreatDoorWTF
import Derived.Test.YteoklapcifonaaaGreatDoorWMC
import Derived.Test.YteoklapcifonaaaGreatDoorWTC
import Derived.Test.YteoklapcifonaaaGreatDoorWPD
namespace Go.Proofs.YteoklapcifonaaaGreatDoor
open Go.RowKit Nmx

/-- the coefficients that are kept so far -/
structure RK (nm : List UInt8) (d : Nat) (cs r : List (List UInt8 × Rat)) (q : Rat) (i : Nat) : Prop where
  can : Can ltB r
  nm4 : ∀ x ∈ r, x.1 ∈ nm4
  lt : ∀ x ∈ r, ∀ y ∈ cs.drop i, ltB x.1 y.1
  ds : ∀ x ∈ r, DS d x.2
  eq : ∀ n, cof r n = if n = nm then 0 else cof (cs.take i) n
  k : q = cof (cs.take i) nm
theorem RK.start (nm : List UInt8) (d : Nat) (cs : List (List UInt8 × Rat)) : RK nm d cs [] 0 0 :=
  ⟨trivial, fun x hx => (List.not_mem_nil hx).elim, fun x hx => (List.not_mem_nil hx).elim, fun x hx => (List.not_mem_nil hx).elim, fun n => by
    show (0 : Rat) = if n = nm then 0 else 0
    split <;> rfl, rfl⟩
theorem RK.hit {nm : List UInt8} {d : Nat} {cs r : List (List UInt8 × Rat)} {q : Rat} {i : Nat} (h : RK nm d cs r q i) (hc : Good d cs) (hi : i < cs.length) (he : cs[i].1 = nm) : RK nm d cs r cs[i].2 (i + 1) := by
  have hdr : ∀ y ∈ cs.drop (i + 1), y ∈ cs.drop i := fun y hy => by rw [List.drop_eq_getElem_cons hi]; exact List.mem_cons_of_mem _ hy
  refine ⟨h.can, h.nm4, fun x hx y hy => h.lt x hx y (hdr y hy), h.ds, fun n => ?_, ?_⟩
  · rw [h.eq n, cof_take_succ hc.can hi]
    by_cases hn : n = nm
    · rw [if_pos hn, if_pos hn]
    · rw [if_neg hn, if_neg hn, if_neg fun e => hn (by rw [← e, he])]
  · rw [cof_take_succ hc.can hi, if_pos he]
theorem rv_cells {w : World} {C : Array Value} {q : Rat} (h : RV w (.agg C) q) : ∃ y0 y1 y2 y3 y4 y5, C = #[y0, y1, y2, y3, y4, y5] :=
  let ⟨_, _, _, _, _, _, _, _, _, _, hC, _, _⟩ := rv_form h
  ⟨_, _, _, _, _, _, Value.agg.inj hC⟩
/-- the boxes of split -/
structure SPB (w wr : World) (s : Int) (ao : Option Addr) (n cap : Nat) (t : ByteArray) (C : Array Value) (q : Rat) (v v' : Value) (r : List (List UInt8 × Rat)) : Prop where
  a : wr.heap[w.heap.size]? = some (.cells #[.int .i64 s, .slice ao n cap, .string t] 26 (0, 0))
  r0 : wr.heap[w.heap.size + 1]? = some (.cells #[.int .i64 0, .bool false, .slice none 0 0, .int .i64 0, .bool false, .slice none 0 0] 85 (0, 0))
  r1 : wr.heap[w.heap.size + 2]? = some (.cells #[.int .i64 0, .slice none 0 0, .string ⟨#[]⟩] 26 (0, 0))
  hs : wr.heap[w.heap.size + 3]? = some (.cells #[.int .i64 s, v, .string t] 26 (0, 0))
  hk : wr.heap[w.heap.size + 4]? = some (.cells C 85 (0, 0))
  rv : RV wr (.agg C) q
  row : wr.ownsRow (w.heap.size + 5) 79 2 v' r.length (flat r)
  bel : Below w.heap.size w wr
theorem SPB.far {w wr w' : World} {s : Int} {ao : Option Addr} {n cap : Nat} {t : ByteArray} {C : Array Value} {q : Rat} {v v' : Value} {r : List (List UInt8 × Rat)} (h : SPB w wr s ao n cap t C q v v' r) (hb : Below wr.heap.size wr w') : SPB w w' s ao n cap t C q v v' r :=
  ⟨(hb.block _ (lt_of_heap h.a)).trans h.a, (hb.block _ (lt_of_heap h.r0)).trans h.r0, (hb.block _ (lt_of_heap h.r1)).trans h.r1, (hb.block _ (lt_of_heap h.hs)).trans h.hs, (hb.block _ (lt_of_heap h.hk)).trans h.hk, h.rv.far hb, row_same h.row fun g hg => hb.block _ (h.row.lt g hg).2, h.bel.trans (hb.mono h.bel.size)⟩
/-- the coefficient is stored -/
theorem SPB.put {w wr : World} {s : Int} {ao : Option Addr} {n cap : Nat} {t : ByteArray} {C : Array Value} {q : Rat} {v v' : Value} {r : List (List UInt8 × Rat)} (h : SPB w wr s ao n cap t C q v v' r) {z0 z1 z2 z3 z4 z5 : Value} {q' : Rat} (hq : RV wr (.agg #[z0, z1, z2, z3, z4, z5]) q') : SPB w (set6 wr (w.heap.size + 4) z0 z1 z2 z3 z4 z5) s ao n cap t #[z0, z1, z2, z3, z4, z5] q' v v' r := by
  obtain ⟨y0, y1, y2, y3, y4, y5, hC⟩ := rv_cells h.rv;have hk := h.hk;rw [hC] at hk;have h1 := h.a;have h2 := h.r0;have h3 := h.r1;have h4 := h.hs;have h5 := h.row;have h6 := h.bel;obtain ⟨K, hK⟩ : ∃ K, w.heap.size + 4 = K := ⟨_, rfl⟩
  have e3 : SPB w (set6 wr K z0 z1 z2 z3 z4 z5) s ao n cap t #[z0, z1, z2, z3, z4, z5] q' v v' r := by
    rw [hK] at hk;have ho : ∀ g, g ≠ K → (set6 wr K z0 z1 z2 z3 z4 z5).heap[g]? = wr.heap[g]? := fun g hg => set6_other hg _ _ _ _ _ _
    have hw : Words wr (set6 wr K z0 z1 z2 z3 z4 z5) := words_but hk (by decide) fun g _ hg => ho g hg
    have s6 := set6_heap hk z0 z1 z2 z3 z4 z5;have b6 := set6_below h6 (show w.heap.size ≤ K by omega) z0 z1 z2 z3 z4 z5;generalize set6 wr K z0 z1 z2 z3 z4 z5 = W at *;refine ⟨(ho _ (by omega)).trans h1, (ho _ (by omega)).trans h2, (ho _ (by omega)).trans h3, (ho _ (by omega)).trans h4, ?_, hq.kept hw, row_same h5 fun g hg => ho g (fun e => ?_), b6⟩
    · rw [hK]; exact s6
    · have := (h5.lt g hg).1
      omega
  rw [hK];exact e3
/-- what split leaves -/
structure Fin6 (w W : World) (R0 R1 : Nat) (s1 : Int) (b1 : Bool) (a1 : Option Addr) (n1 c1 : Nat) (s2 : Int) (b2 : Bool) (a2 : Option Addr) (n2 c2 : Nat) (q : Rat) (s : Int) (av : Option Addr) (n cv : Nat) (tc : ByteArray) (d : Nat) (c : Rat) (r : List (List UInt8 × Rat)) : Prop where
  h0 : W.heap[R0]? = some (.cells #[.int .i64 s1, .bool b1, .slice a1 n1 c1, .int .i64 s2, .bool b2, .slice a2 n2 c2] 85 (0, 0))
  h1 : W.heap[R1]? = some (.cells #[.int .i64 s, .slice av n cv, .string tc] 26 (0, 0))
  rv : RV W (.agg #[.int .i64 s1, .bool b1, .slice a1 n1 c1, .int .i64 s2, .bool b2, .slice a2 n2 c2]) q
  lv : LV W (.agg #[.int .i64 s, .slice av n cv, .string tc]) s d c r
  bel : Below w.heap.size w W
end Go.Proofs.YteoklapcifonaaaGreatDoor
/- The reference's CoefOf and whole. -/
namespace Go.Proofs.YteoklapcifonaaaGreatDoor
open Go.RowKit Nmx

end Go.Proofs.YteoklapcifonaaaGreatDoor
/- The reference's 'without': an expression without a variable. -/
namespace Go.Proofs.YteoklapcifonaaaGreatDoor
open Go.RowKit Nmx

end Go.Proofs.YteoklapcifonaaaGreatDoor
/- Solve. -/
namespace Go.Proofs.YteoklapcifonaaaGreatDoor
open Go.RowKit Nmx

theorem lvOpen {w : World} {v : Value} {s : Int} {d : Nat} {c : Rat} {cs : List (List UInt8 × Rat)} (h : LV w v s d c cs) : ∃ ao n cap tx, v = .agg #[.int .i64 s, .slice ao n cap, .string tx] :=
  let ⟨ao, _, _, cap, hv, _⟩ := h
  ⟨ao, _, cap, _, hv⟩
/-- the boxes of Solve -/
structure SV (w W : World) (r s : Int) (a1 : Option Addr) (n1 c1 : Nat) (t1 tm : ByteArray) : Prop where
  a : W.heap[w.heap.size]? = some (.cells #[.int .i64 r, .int .i64 s, .slice a1 n1 c1, .string t1, .string tm] 39 (0, 0))
  r : W.heap[w.heap.size + 1]? = some (.cells #[.int .i64 0, .slice none 0 0, .string ⟨#[]⟩] 26 (0, 0))
  bel : Below w.heap.size w W
theorem SV.far {w W W' : World} {r s : Int} {a1 : Option Addr} {n1 c1 : Nat} {t1 tm : ByteArray} (h : SV w W r s a1 n1 c1 t1 tm) (hb : Below W.heap.size W W') : SV w W' r s a1 n1 c1 t1 tm :=
  ⟨(hb.block _ (lt_of_heap h.a)).trans h.a, (hb.block _ (lt_of_heap h.r)).trans h.r, h.bel.trans (hb.mono h.bel.size)⟩
/-- .. the coefficient and the rest -/
structure SK (w W : World) (K : Nat) (r s : Int) (a1 : Option Addr) (n1 c1 : Nat) (t1 tm : ByteArray) (s1 : Int) (b1 : Bool) (a2 : Option Addr) (n2 c2 : Nat) (s2 : Int) (b2 : Bool) (a3 : Option Addr) (n3 c3 : Nat) (s4 : Int) (a4 : Option Addr) (n4 c4 : Nat) (t4 : ByteArray) (d : Nat) (k p : Rat) (rs : List (List UInt8 × Rat)) : Prop where
  sv : SV w W r s a1 n1 c1 t1 tm
  hk : W.heap[K]? = some (.cells #[.int .i64 s1, .bool b1, .slice a2 n2 c2, .int .i64 s2, .bool b2, .slice a3 n3 c3] 85 (0, 0))
  hl : W.heap[K + 1]? = some (.cells #[.int .i64 s4, .slice a4 n4 c4, .string t4] 26 (0, 0))
  rv : RV W (.agg #[.int .i64 s1, .bool b1, .slice a2 n2 c2, .int .i64 s2, .bool b2, .slice a3 n3 c3]) k
  lv : LV W (.agg #[.int .i64 s4, .slice a4 n4 c4, .string t4]) s d p rs
theorem SK.far {w W W' : World} {K : Nat} {r s : Int} {a1 : Option Addr} {n1 c1 : Nat} {t1 tm : ByteArray} {s1 : Int} {b1 : Bool} {a2 : Option Addr} {n2 c2 : Nat} {s2 : Int} {b2 : Bool} {a3 : Option Addr} {n3 c3 : Nat} {s4 : Int} {a4 : Option Addr} {n4 c4 : Nat} {t4 : ByteArray} {d : Nat} {k p : Rat} {rs : List (List UInt8 × Rat)} (h : SK w W K r s a1 n1 c1 t1 tm s1 b1 a2 n2 c2 s2 b2 a3 n3 c3 s4 a4 n4 c4 t4 d k p rs) (hb : Below W.heap.size W W') : SK w W' K r s a1 n1 c1 t1 tm s1 b1 a2 n2 c2 s2 b2 a3 n3 c3 s4 a4 n4 c4 t4 d k p rs :=
  ⟨h.sv.far hb, (hb.block _ (lt_of_heap h.hk)).trans h.hk, (hb.block _ (lt_of_heap h.hl)).trans h.hl, h.rv.far hb, h.lv.far hb⟩
section
set_option maxRecDepth 100000
set_option maxHeartbeats 8000000
theorem smallNeg (W : World) : Calls Tryz.prog 98 #[.int .i64 (-1)] W (GetsQ (-1) W) := by
  have hb0 : Below W.heap.size W (W.alloc (.cells #[.int .i64 0, .bool false, .slice none 0 0, .int .i64 0, .bool false, .slice none 0 0] 85)) := (Below.refl _ _).alloc (Nat.le_refl _) _;have hfi := fromInt64_any (-1) (W.alloc (.cells #[.int .i64 0, .bool false, .slice none 0 0, .int .i64 0, .bool false, .slice none 0 0] 85)) (by omega) (by omega);have HB0 := Lib.hid hb0;have HR0 := Lib.hid (heap_alloc_new W (.cells #[.int .i64 0, .bool false, .slice none 0 0, .int .i64 0, .bool false, .slice none 0 0] 85));clear hb0
  go_enter Tryz.func98, Tryz.ntmps98
  go_wp2_with fail
  refine hfi.mono ?_;rintro e w1 ⟨v1, rfl, hv1, hb1⟩;have HI := Lib.hid hv1;obtain ⟨s1, b1, a1, n1, c1, rfl⟩ := iv_form hv1;have hR := (hb1.block _ (lt_of_heap HR0.out)).trans HR0.out;have HR := Lib.hid hR;have HB := Lib.hid (HB0.out.trans (hb1.mono HB0.out.size));have r0 := heap_cell hR 0;have r1 := heap_cell hR 1;have r2 := heap_cell hR 2;have r3 := heap_cell hR 3;have r4 := heap_cell hR 4;have r5 := heap_cell hR 5;have fr := fun i => heap_fz hR i
  clear hv1 hb1 hfi hR
  go_wp2
  exact end_rat Tryz.results98 rfl rfl HR.out (by rw [show (-1 : Rat).num = -1 from rfl]; exact HI.out) (by rw [denI_one (show (-1 : Rat).den = 1 from rfl)]; exact zeroIV _) HB.out (Nat.le_refl _)
end
end Go.Proofs.YteoklapcifonaaaGreatDoor

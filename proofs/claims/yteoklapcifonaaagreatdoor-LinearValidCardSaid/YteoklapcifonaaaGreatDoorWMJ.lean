/- normalDivides: the remainder of a number by the modulus. -/
import Derived.Test.YteoklapcifonaaaGreatDoorWMC
import Derived.Test.YteoklapcifonaaaGreatDoorWLO
import Derived.Test.YteoklapcifonaaaGreatDoorWQA
import Derived.Test.YteoklapcifonaaaGreatDoorWLU
namespace Go.Proofs.YteoklapcifonaaaGreatDoor
open Go.RowKit Nmx

/-- the boxes of the remainder: factor in D, modulus in M -/
structure RB (w W : World) (D M : Nat) (A B : Array Value) (zF zM : Int) : Prop where
  d : W.heap[D]? = some (.cells A 83 (0, 0))
  vd : IV W (.agg A) zF
  m : W.heap[M]? = some (.cells B 83 (0, 0))
  vm : IV W (.agg B) zM
  r : W.heap[w.heap.size]? = some (.cells #[.int .i64 0, .bool false, .slice none 0 0] 83 (0, 0))
  ld : D < w.heap.size
  lm : M < w.heap.size
  bel : Below w.heap.size w W
theorem RB.far {w W W' : World} {D M : Nat} {A B : Array Value} {zF zM : Int} (h : RB w W D M A B zF zM) (hb : Below W.heap.size W W') : RB w W' D M A B zF zM :=
  ⟨(hb.block _ (lt_of_heap h.d)).trans h.d, h.vd.far hb, (hb.block _ (lt_of_heap h.m)).trans h.m, h.vm.far hb, (hb.block _ (lt_of_heap h.r)).trans h.r, h.ld, h.lm, h.bel.trans (hb.mono h.bel.size)⟩
theorem RB.but {w W W' : World} {D M : Nat} {A B : Array Value} {zF zM : Int} (h : RB w W D M A B zF zM) {R : Nat} {cs : Array Value} {fr : Nat × Nat} (hR : W.heap[R]? = some (.cells cs 83 fr)) (hl : w.heap.size < R) (ho : ∀ g, g ≠ R → W'.heap[g]? = W.heap[g]?) (hs : W.heap.size ≤ W'.heap.size) (h1 : W'.os = W.os) (h2 : W'.tape = W.tape) (h3 : W'.output = W.output) : RB w W' D M A B zF zM := by
  have ld := h.ld;have lm := h.lm;exact ⟨(ho _ (by omega)).trans h.d, h.vd.but hR (by decide) ho, (ho _ (by omega)).trans h.m, h.vm.but hR (by decide) ho, (ho _ (by omega)).trans h.r, ld, lm, ⟨h1.trans h.bel.os, h2.trans h.bel.tape, h3.trans h.bel.output, Nat.le_trans h.bel.size hs, fun k hk => (ho k (by omega)).trans (h.bel.block k hk)⟩⟩
end Go.Proofs.YteoklapcifonaaaGreatDoor
/- The normal form of a divisibility: what it is; it is the same for constraints that differ by a positive factor. -/
namespace Go.Proofs.YteoklapcifonaaaGreatDoor
open Go.RowKit Nmx

/-- a number times the common denominator, modulo the modulus -/
def rsD (F : Nat) (zM : Int) (q : Rat) : Int := (q * ((F : Nat) : Rat)).num % zM
end Go.Proofs.YteoklapcifonaaaGreatDoor
/- Boxes and plain words of normalDivides. -/
namespace Go.Proofs.YteoklapcifonaaaGreatDoor
open Go.RowKit Nmx

/-- the boxes of normalDivides: the factor in D -/
structure PD (w wr : World) (D : Nat) (r : Int) (a1 : Option Addr) (n1 c1 : Nat) (t1 tm : ByteArray) (C1 : Array Value) (zd : Int) : Prop where
  a : wr.heap[w.heap.size]? = some (.cells #[.int .i64 r, .int .i64 2, .slice a1 n1 c1, .string t1, .string tm] 39 (0, 0))
  r : wr.heap[w.heap.size + 1]? = some (.cells #[.int .i64 0, .int .i64 0, .slice none 0 0, .string ⟨#[]⟩, .string ⟨#[]⟩] 39 (0, 0))
  hd : wr.heap[D]? = some (.cells C1 83 (0, 0))
  vd : IV wr (.agg C1) zd
  l1 : w.heap.size + 1 < D
  bel : Below w.heap.size w wr
theorem PD.far {w wr w' : World} {D : Nat} {r : Int} {a1 : Option Addr} {n1 c1 : Nat} {t1 tm : ByteArray} {C1 : Array Value} {zd : Int} (h : PD w wr D r a1 n1 c1 t1 tm C1 zd) (hb : Below wr.heap.size wr w') : PD w w' D r a1 n1 c1 t1 tm C1 zd :=
  ⟨(hb.block _ (lt_of_heap h.a)).trans h.a, (hb.block _ (lt_of_heap h.r)).trans h.r, (hb.block _ (lt_of_heap h.hd)).trans h.hd, h.vd.far hb, h.l1, h.bel.trans (hb.mono h.bel.size)⟩
theorem PD.setD {w wr : World} {D : Nat} {r : Int} {a1 : Option Addr} {n1 c1 : Nat} {t1 tm : ByteArray} {C1 : Array Value} {zd : Int} (h : PD w wr D r a1 n1 c1 t1 tm C1 zd) {s : Int} {b : Bool} {ao : Option Addr} {n c : Nat} {z : Int} (hz : IV wr (.agg #[.int .i64 s, .bool b, .slice ao n c]) z) : PD w (((wr.setCell ⟨D, 0, none⟩ (.int .i64 s)).setCell ⟨D, 1, none⟩ (.bool b)).setCell ⟨D, 2, none⟩ (.slice ao n c)) D r a1 n1 c1 t1 tm #[.int .i64 s, .bool b, .slice ao n c] z := by
  obtain ⟨_, _, _, _, _, hC1⟩ := iv_form h.vd;injection hC1 with hC1;subst hC1;have ho : ∀ g, g ≠ D → (((wr.setCell ⟨D, 0, none⟩ (.int .i64 s)).setCell ⟨D, 1, none⟩ (.bool b)).setCell ⟨D, 2, none⟩ (.slice ao n c)).heap[g]? = wr.heap[g]? := fun g hg => set3_other _ _ _ hg
  have h1 := h.l1;exact ⟨(ho _ (by omega)).trans h.a, (ho _ (by omega)).trans h.r, set3_heap h.hd, hz.but h.hd (by decide) ho, h1, ((h.bel.setCell (show w.heap.size ≤ D by omega) _).setCell (show w.heap.size ≤ D by omega) _).setCell (show w.heap.size ≤ D by omega) _⟩
/-- .. the modulus in M -/
structure PM (w wr : World) (D M : Nat) (r : Int) (a1 : Option Addr) (n1 c1 : Nat) (t1 tm : ByteArray) (C1 C2 : Array Value) (zd zm : Int) : Prop where
  pd : PD w wr D r a1 n1 c1 t1 tm C1 zd
  hm : wr.heap[M]? = some (.cells C2 83 (0, 0))
  vm : IV wr (.agg C2) zm
  l2 : D < M
theorem PM.far {w wr w' : World} {D M : Nat} {r : Int} {a1 : Option Addr} {n1 c1 : Nat} {t1 tm : ByteArray} {C1 C2 : Array Value} {zd zm : Int} (h : PM w wr D M r a1 n1 c1 t1 tm C1 C2 zd zm) (hb : Below wr.heap.size wr w') : PM w w' D M r a1 n1 c1 t1 tm C1 C2 zd zm :=
  ⟨h.pd.far hb, (hb.block _ (lt_of_heap h.hm)).trans h.hm, h.vm.far hb, h.l2⟩
/-- a store into a block behind them -/
theorem PM.but {w wr w' : World} {D M : Nat} {r : Int} {a1 : Option Addr} {n1 c1 : Nat} {t1 tm : ByteArray} {C1 C2 : Array Value} {zd zm : Int} (h : PM w wr D M r a1 n1 c1 t1 tm C1 C2 zd zm) {R : Nat} {cs : Array Value} {t : TypeId} {fr : Nat × Nat} (hR : wr.heap[R]? = some (.cells cs t fr)) (ht : t ≠ 145) (hl : M < R) (ho : ∀ g, g ≠ R → w'.heap[g]? = wr.heap[g]?) (hb : Below w.heap.size w w') : PM w w' D M r a1 n1 c1 t1 tm C1 C2 zd zm := by
  have h1 := h.pd.l1;have h2 := h.l2;exact ⟨⟨(ho _ (by omega)).trans h.pd.a, (ho _ (by omega)).trans h.pd.r, (ho _ (by omega)).trans h.pd.hd, h.pd.vd.but hR ht ho, h1, hb⟩, (ho _ (by omega)).trans h.hm, h.vm.but hR ht ho, h2⟩
/-- .. the greatest common divisor in G -/
structure PG (w wr : World) (D M G : Nat) (r : Int) (a1 : Option Addr) (n1 c1 : Nat) (t1 tm : ByteArray) (C1 C2 C3 : Array Value) (zd zm zg : Int) : Prop where
  pm : PM w wr D M r a1 n1 c1 t1 tm C1 C2 zd zm
  hg : wr.heap[G]? = some (.cells C3 83 (0, 0))
  vg : IV wr (.agg C3) zg
  l3 : M < G
theorem PG.far {w wr w' : World} {D M G : Nat} {r : Int} {a1 : Option Addr} {n1 c1 : Nat} {t1 tm : ByteArray} {C1 C2 C3 : Array Value} {zd zm zg : Int} (h : PG w wr D M G r a1 n1 c1 t1 tm C1 C2 C3 zd zm zg) (hb : Below wr.heap.size wr w') : PG w w' D M G r a1 n1 c1 t1 tm C1 C2 C3 zd zm zg :=
  ⟨h.pm.far hb, (hb.block _ (lt_of_heap h.hg)).trans h.hg, h.vg.far hb, h.l3⟩
theorem PG.setG {w wr : World} {D M G : Nat} {r : Int} {a1 : Option Addr} {n1 c1 : Nat} {t1 tm : ByteArray} {C1 C2 C3 : Array Value} {zd zm zg : Int} (h : PG w wr D M G r a1 n1 c1 t1 tm C1 C2 C3 zd zm zg) {s : Int} {b : Bool} {ao : Option Addr} {n c : Nat} {z : Int} (hz : IV wr (.agg #[.int .i64 s, .bool b, .slice ao n c]) z) : PG w (((wr.setCell ⟨G, 0, none⟩ (.int .i64 s)).setCell ⟨G, 1, none⟩ (.bool b)).setCell ⟨G, 2, none⟩ (.slice ao n c)) D M G r a1 n1 c1 t1 tm C1 C2 #[.int .i64 s, .bool b, .slice ao n c] zd zm z := by
  obtain ⟨_, _, _, _, _, hC1⟩ := iv_form h.vg;injection hC1 with hC1;subst hC1;have ho : ∀ g, g ≠ G → (((wr.setCell ⟨G, 0, none⟩ (.int .i64 s)).setCell ⟨G, 1, none⟩ (.bool b)).setCell ⟨G, 2, none⟩ (.slice ao n c)).heap[g]? = wr.heap[g]? := fun g hg => set3_other _ _ _ hg
  have h1 := h.pm.pd.l1;have h2 := h.pm.l2;have h3 := h.l3;have hb := ((h.pm.pd.bel.setCell (show w.heap.size ≤ G by omega) (p := ⟨G, 0, none⟩) (.int .i64 s)).setCell (p := ⟨G, 1, none⟩) (show w.heap.size ≤ G by omega) (.bool b)).setCell (p := ⟨G, 2, none⟩) (show w.heap.size ≤ G by omega) (.slice ao n c);exact ⟨h.pm.but h.hg (by decide) h3 ho hb, set3_heap h.hg, hz.but h.hg (by decide) ho, h3⟩
theorem PG.but {w wr w' : World} {D M G : Nat} {r : Int} {a1 : Option Addr} {n1 c1 : Nat} {t1 tm : ByteArray} {C1 C2 C3 : Array Value} {zd zm zg : Int} (h : PG w wr D M G r a1 n1 c1 t1 tm C1 C2 C3 zd zm zg) {R : Nat} {cs : Array Value} {t : TypeId} {fr : Nat × Nat} (hR : wr.heap[R]? = some (.cells cs t fr)) (ht : t ≠ 145) (hl : G < R) (ho : ∀ g, g ≠ R → w'.heap[g]? = wr.heap[g]?) (hb : Below w.heap.size w w') : PG w w' D M G r a1 n1 c1 t1 tm C1 C2 C3 zd zm zg := by
  have h3 := h.l3;exact ⟨h.pm.but hR ht (by omega) ho hb, (ho _ (by omega)).trans h.hg, h.vg.but hR ht ho, h3⟩
theorem cof_mem {K : Type} {lt : K → K → Prop} {l : List (K × Rat)} (hc : Can lt l) : ∀ i : Nat, ∀ x ∈ l.take i, ∀ y ∈ l.drop i, lt x.1 y.1 := by
  induction l with
  | nil => intro i x hx; rw [List.take_nil] at hx; exact (List.not_mem_nil hx).elim
  | cons z l ih =>
    obtain ⟨n, p⟩ := z;intro i x hx y hy;cases i with
    | zero => rw [List.take_zero] at hx; exact (List.not_mem_nil hx).elim
    | succ i =>
      rw [List.take_succ_cons] at hx;rw [List.drop_succ_cons] at hy;rcases List.mem_cons.1 hx with h | h
      · rw [h]; exact hc.2.1 y (List.mem_of_mem_drop hy)
      · exact ih hc.2.2 i x h y hy
theorem cof_take_succ {l : List (List UInt8 × Rat)} (hc : Can ltB l) {i : Nat} (h : i < l.length) (n : List UInt8) : cof (l.take (i + 1)) n = if l[i].1 = n then l[i].2 else cof (l.take i) n := by
  have hlt : ∀ x ∈ l.take i, ∀ y ∈ [l[i]], ltB x.1 y.1 := fun x hx y hy => by
    rw [List.mem_singleton.1 hy];exact cof_mem hc i x hx _ (by rw [List.drop_eq_getElem_cons h]; exact List.mem_cons_self)
  rw [List.take_succ_eq_append_getElem h, cof_append ord_ltB hlt];have e1 : cof [l[i]] n = if l[i].1 = n then l[i].2 else 0 := rfl
  rw [e1]
  by_cases hn : l[i].1 = n
  · rw [if_pos hn, if_pos hn, cof_none (l := l.take i) (fun x hx e => ord_ltB.irr n (by
      have := hlt x hx l[i] (by simp); rw [e, hn] at this; exact this))]
    exact Rat.zero_add _
  · rw [if_neg hn, if_neg hn]; exact Rat.add_zero _
/-- the coefficients that are made so far -/
structure RD (F : Nat) (zM g : Int) (d : Nat) (cs r : List (List UInt8 × Rat)) (i : Nat) : Prop where
  can : Can ltB r
  nm : ∀ x ∈ r, x.1 ∈ nm4
  lt : ∀ x ∈ r, ∀ y ∈ cs.drop i, ltB x.1 y.1
  ds : ∀ x ∈ r, DS d x.2
  eq : ∀ n, cof r n = ((rsD F zM (cof (cs.take i) n) / g : Int) : Rat)
theorem rsD_zero (F : Nat) (zM : Int) : rsD F zM 0 = 0 := by
  unfold rsD;rw [Rat.zero_mul];exact Int.zero_emod zM
theorem RD.start (F : Nat) (zM g : Int) (d : Nat) (cs : List (List UInt8 × Rat)) : RD F zM g d cs [] 0 :=
  ⟨trivial, fun x hx => (List.not_mem_nil hx).elim, fun x hx => (List.not_mem_nil hx).elim, fun x hx => (List.not_mem_nil hx).elim, fun n => by
    show (0 : Rat) = ((rsD F zM 0 / g : Int) : Rat)
    rw [rsD_zero, Int.zero_ediv]; rfl⟩
theorem RD.step {F : Nat} {zM g : Int} {d e : Nat} {cs r : List (List UInt8 × Rat)} {i : Nat} (h : RD F zM g d cs r i) (hc : Good e cs) (hi : i < cs.length) {q : Int} (hq : rsD F zM cs[i].2 / g = q) (hd : DS d (q : Rat)) : RD F zM g d cs (if q = 0 then r else r ++ [(cs[i].1, (q : Rat))]) (i + 1) := by
  have hdr : ∀ y ∈ cs.drop (i + 1), y ∈ cs.drop i := fun y hy => by rw [List.drop_eq_getElem_cons hi]; exact List.mem_cons_of_mem _ hy
  have hm : cs[i] ∈ cs.drop i := by rw [List.drop_eq_getElem_cons hi]; exact List.mem_cons_self
  have hlt : ∀ x ∈ r, ltB x.1 cs[i].1 := fun x hx => h.lt x hx _ hm
  have hnx : ∀ y ∈ cs.drop (i + 1), ltB cs[i].1 y.1 := cof_mem hc.can (i + 1) cs[i] (by rw [List.take_succ_eq_append_getElem hi]; exact List.mem_append.2 (.inr (List.mem_singleton.2 rfl)));have hr0 : cof r cs[i].1 = 0 := cof_none fun x hx e => ord_ltB.irr cs[i].1 (by have := hlt x hx; rw [e] at this; exact this)
  have hone : ∀ x ∈ r, ∀ y ∈ [(cs[i].1, (q : Rat))], ltB x.1 y.1 := fun x hx y hy => by rw [List.mem_singleton.1 hy]; exact hlt x hx
  have heq : ∀ n, (cof r n + if cs[i].1 = n then (q : Rat) else 0) = ((rsD F zM (cof (cs.take (i + 1)) n) / g : Int) : Rat) := fun n => by
    rw [cof_take_succ hc.can hi]
    by_cases hn : cs[i].1 = n
    · rw [if_pos hn, if_pos hn, hq, ← hn, hr0]; exact Rat.zero_add _
    · rw [if_neg hn, if_neg hn, ← h.eq n]; exact Rat.add_zero _
  by_cases h0 : q = 0
  · rw [if_pos h0];refine ⟨h.can, h.nm, fun x hx y hy => h.lt x hx y (hdr y hy), h.ds, fun n => ?_⟩;rw [← heq n, h0];have e3 : (if cs[i].1 = n then ((0 : Int) : Rat) else 0) = 0 := by split <;> rfl
    rw [e3, Rat.add_zero]
  · rw [if_neg h0];have hq0 : (q : Rat) ≠ 0 := fun e => h0 (Rat.intCast_inj.1 (show ((q : Int) : Rat) = ((0 : Int) : Rat) from e))
    refine ⟨can_append h.can ⟨hq0, fun x hx => (List.not_mem_nil hx).elim, trivial⟩ hone, fun x hx => ?_, fun x hx y hy => ?_, fun x hx => ?_, fun n => ?_⟩
    · rcases List.mem_append.1 hx with h1 | h1
      · exact h.nm x h1
      · rw [List.mem_singleton.1 h1]; exact hc.nm cs[i] (List.getElem_mem hi)
    · rcases List.mem_append.1 hx with h1 | h1
      · exact h.lt x h1 y (hdr y hy)
      · rw [List.mem_singleton.1 h1]; exact hnx y hy
    · rcases List.mem_append.1 hx with h1 | h1
      · exact h.ds x h1
      · rw [List.mem_singleton.1 h1]; exact hd
    · rw [cof_append ord_ltB hone]; exact heq n
theorem RD.good {F : Nat} {zM g : Int} {d : Nat} {cs r : List (List UInt8 × Rat)} {i : Nat} (h : RD F zM g d cs r i) : Good d r := ⟨h.can, h.nm, h.ds⟩
/-- .. the constraint in N, with the coefficients made so far -/
structure PN (w wr : World) (D M G N : Nat) (r : Int) (a1 : Option Addr) (n1 c1 : Nat) (t1 tm tb tv : ByteArray) (C1 C2 C3 : Array Value) (zd zm zg : Int) (v v' : Value) (rs : List (List UInt8 × Rat)) : Prop where
  pg : PG w wr D M G r a1 n1 c1 t1 tm C1 C2 C3 zd zm zg
  hn : wr.heap[N]? = some (.cells #[.int .i64 r, .int .i64 2, v, .string tb, .string tv] 39 (0, 0))
  row : wr.ownsRow (N + 1) 79 2 v' rs.length (flat rs)
  l4 : G < N
theorem PG.kept {w wr w' : World} {D M G : Nat} {r : Int} {a1 : Option Addr} {n1 c1 : Nat} {t1 tm : ByteArray} {C1 C2 C3 : Array Value} {zd zm zg : Int} (h : PG w wr D M G r a1 n1 c1 t1 tm C1 C2 C3 zd zm zg) (hs : ∀ g, g ≤ G → w'.heap[g]? = wr.heap[g]?) (hw : Words wr w') (hb : Below w.heap.size w w') : PG w w' D M G r a1 n1 c1 t1 tm C1 C2 C3 zd zm zg := by
  have h1 := h.pm.pd.l1;have h2 := h.pm.l2;have h3 := h.l3;exact ⟨⟨⟨(hs _ (by omega)).trans h.pm.pd.a, (hs _ (by omega)).trans h.pm.pd.r, (hs _ (by omega)).trans h.pm.pd.hd, h.pm.pd.vd.kept hw, h1, hb⟩, (hs _ (by omega)).trans h.pm.hm, h.pm.vm.kept hw, h2⟩, (hs _ (by omega)).trans h.hg, h.vg.kept hw, h3⟩
theorem PN.far {w wr w' : World} {D M G N : Nat} {r : Int} {a1 : Option Addr} {n1 c1 : Nat} {t1 tm tb tv : ByteArray} {C1 C2 C3 : Array Value} {zd zm zg : Int} {v v' : Value} {rs : List (List UInt8 × Rat)} (h : PN w wr D M G N r a1 n1 c1 t1 tm tb tv C1 C2 C3 zd zm zg v v' rs) (hb : Below wr.heap.size wr w') : PN w w' D M G N r a1 n1 c1 t1 tm tb tv C1 C2 C3 zd zm zg v v' rs :=
  ⟨h.pg.far hb, (hb.block _ (lt_of_heap h.hn)).trans h.hn, row_same h.row fun g hg => hb.block _ (h.row.lt g hg).2, h.l4⟩
/-- a store into a number's block behind them -/
theorem PN.but {w wr w' : World} {D M G N : Nat} {r : Int} {a1 : Option Addr} {n1 c1 : Nat} {t1 tm tb tv : ByteArray} {C1 C2 C3 : Array Value} {zd zm zg : Int} {v v' : Value} {rs : List (List UInt8 × Rat)} (h : PN w wr D M G N r a1 n1 c1 t1 tm tb tv C1 C2 C3 zd zm zg v v' rs) {R : Nat} {cs : Array Value} {fr : Nat × Nat} (hR : wr.heap[R]? = some (.cells cs 83 fr)) (hl : N < R) (ho : ∀ g, g ≠ R → w'.heap[g]? = wr.heap[g]?) (hb : Below w.heap.size w w') : PN w w' D M G N r a1 n1 c1 t1 tm tb tv C1 C2 C3 zd zm zg v v' rs := by
  have h4 := h.l4;refine ⟨h.pg.but hR (by decide) (by omega) ho hb, (ho _ (by omega)).trans h.hn, row_same h.row fun g hg => ho g fun e => ?_, h4⟩;rcases h.row.2 with ⟨rfl, _⟩ | ⟨g', cap', cur, rfl, _, hgg, _⟩
  · cases hg
  · injection hg with hg;have hg' : g' = R := Eq.trans hg e;rw [hg', hR] at hgg;cases hgg
theorem PN.grow {w wr w1 : World} {D M G N : Nat} {r : Int} {a1 : Option Addr} {n1 c1 : Nat} {t1 tm tb tv : ByteArray} {C1 C2 C3 : Array Value} {zd zm zg : Int} {v v' : Value} {rs : List (List UInt8 × Rat)} {x : List UInt8 × Rat} (h : PN w wr D M G N r a1 n1 c1 t1 tm tb tv C1 C2 C3 zd zm zg v v rs) (hg : wr.grownBy w1 v.ownBlock) (hr : w1.ownsRow (N + 1) 79 2 v' (rs.length + 1) (flat rs ++ [.string ⟨x.1.toArray⟩, .string (TX x.2)])) : PN w w1 D M G N r a1 n1 c1 t1 tm tb tv C1 C2 C3 zd zm zg v v' (rs ++ [x]) := by
  have h1 := h.pg.pm.pd.l1;have h2 := h.pg.pm.l2;have h3 := h.pg.l3;have h4 := h.l4;have hlt := lt_of_heap h.hn;have hne : ∀ g, g ≤ N → some g ≠ v.ownBlock := fun g hgS e => by have := (h.row.lt g e.symm).1; omega
  have hbel : Below w.heap.size w w1 := h.pg.pm.pd.bel.grown hg h.pg.pm.pd.bel.size fun g e => by have := (h.row.lt g e).1; omega
  refine ⟨h.pg.kept (fun g hgs => hg.block g (by omega) (hne g (by omega))) (words_grown hg h.row) hbel, (hg.block N hlt (hne N (Nat.le_refl _))).trans h.hn, ?_, h4⟩;rw [List.length_append, flat_append];exact hr
theorem PN.set {w wr : World} {D M G N : Nat} {r : Int} {a1 : Option Addr} {n1 c1 : Nat} {t1 tm tb tv : ByteArray} {C1 C2 C3 : Array Value} {zd zm zg : Int} {v v' : Value} {rs : List (List UInt8 × Rat)} (h : PN w wr D M G N r a1 n1 c1 t1 tm tb tv C1 C2 C3 zd zm zg v v' rs) : PN w (wr.setCell ⟨N, 2, none⟩ v') D M G N r a1 n1 c1 t1 tm tb tv C1 C2 C3 zd zm zg v' v' rs := by
  have h1 := h.pg.pm.pd.l1;have h2 := h.pg.pm.l2;have h3 := h.pg.l3;have h4 := h.l4;have hset : ∀ g, g ≠ N → (wr.setCell ⟨N, 2, none⟩ v').heap[g]? = wr.heap[g]? := fun g hgS => Below.heap_setCell _ _ _ _ hgS
  refine ⟨h.pg.kept (fun g hgs => hset g (by omega)) (words_but h.hn (by decide) fun g _ hgS => hset g hgS) (h.pg.pm.pd.bel.setCell (show w.heap.size ≤ N by omega) _), ?_, ?_, h4⟩
  · have := heap_setCell_same wr N 2 _ _ v' h.hn;exact this
  · exact ownsRow_setCell_below h.row (a := ⟨N, 2, none⟩) (show N < N + 1 by omega) v'
end Go.Proofs.YteoklapcifonaaaGreatDoor
/- normalDivides. -/
namespace Go.Proofs.YteoklapcifonaaaGreatDoor
open Go.RowKit Nmx
end Go.Proofs.YteoklapcifonaaaGreatDoor
/- Normal at divisibilities. -/
namespace Go.Proofs.YteoklapcifonaaaGreatDoor
open Go.RowKit Nmx

end Go.Proofs.YteoklapcifonaaaGreatDoor
/- Constraints that differ by a positive factor: the walk of the statement. -/
namespace Go.Proofs.YteoklapcifonaaaGreatDoor
open Go.RowKit Nmx

theorem set3m {w : World} {T : Nat} {x0 x1 x2 x3 x4 y1 y2 y3 : Value} {t : TypeId} (h : w.heap[T]? = some (.cells #[x0, x1, x2, x3, x4] t (0, 0))) : (((w.setCell ⟨T, 1, none⟩ y1).setCell ⟨T, 2, none⟩ y2).setCell ⟨T, 3, none⟩ y3).heap[T]? = some (.cells #[x0, y1, y2, y3, x4] t (0, 0)) := by
    have h1 := heap_setCell_same w T 1 _ _ y1 h;have h2 := heap_setCell_same _ T 2 _ _ y2 h1;have h3 := heap_setCell_same _ T 3 _ _ y3 h2;exact h3
theorem set3m_other {w : World} {T : Nat} (y1 y2 y3 : Value) {g : Nat} (hg : g ≠ T) : (((w.setCell ⟨T, 1, none⟩ y1).setCell ⟨T, 2, none⟩ y2).setCell ⟨T, 3, none⟩ y3).heap[g]? = w.heap[g]? :=
  (Below.heap_setCell _ _ _ _ hg).trans ((Below.heap_setCell _ _ _ _ hg).trans (Below.heap_setCell _ _ _ _ hg))
/-- a box with a constraint -/
structure CX (w : World) (S : Nat) (r s : Int) (ao : Option Addr) (n cap : Nat) (tx tm : ByteArray) (d : Nat) (c : Rat) (cs : List (List UInt8 × Rat)) : Prop where
  h : w.heap[S]? = some (.cells #[.int .i64 r, .int .i64 s, .slice ao n cap, .string tx, .string tm] 39 (0, 0))
  l : LV w (.agg #[.int .i64 s, .slice ao n cap, .string tx]) s d c cs
section
variable {w w' : World} {S : Nat} {r s : Int} {ao : Option Addr} {n cap : Nat} {tx tm : ByteArray} {d : Nat} {c : Rat} {cs : List (List UInt8 × Rat)}
theorem CX.far (h : CX w S r s ao n cap tx tm d c cs) (hb : Below w.heap.size w w') : CX w' S r s ao n cap tx tm d c cs := ⟨(hb.block _ (lt_of_heap h.h)).trans h.h, h.l.far hb⟩
theorem CX.new (h : LV w (.agg #[.int .i64 s, .slice ao n cap, .string tx]) s d c cs) : CX (w.alloc (.cells #[.int .i64 r, .int .i64 s, .slice ao n cap, .string tx, .string tm] 39)) w.heap.size r s ao n cap tx tm d c cs :=
  ⟨heap_alloc_new w _, h.far (alloc_far w _)⟩
theorem CX.but (h : CX w S r s ao n cap tx tm d c cs) {T : Nat} {xs : Array Value} (hT : w.heap[T]? = some (.cells xs 39 (0, 0))) (hne : S ≠ T) (ho : ∀ g, g ≠ T → w'.heap[g]? = w.heap[g]?) : CX w' S r s ao n cap tx tm d c cs :=
  ⟨(ho _ hne).trans h.h, h.l.but hT (by decide) ho⟩
end
end Go.Proofs.YteoklapcifonaaaGreatDoor

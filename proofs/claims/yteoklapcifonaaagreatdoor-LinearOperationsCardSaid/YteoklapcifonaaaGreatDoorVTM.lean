/- split: the coefficient of a variable and the expression without it. -/
import Derived.Test.YteoklapcifonaaaGreatDoorVMJ
import Derived.Test.YteoklapcifonaaaGreatDoorVTF
import Derived.Test.YteoklapcifonaaaGreatDoorVMC
import Derived.Test.YteoklapcifonaaaGreatDoorVTC
import Derived.Test.YteoklapcifonaaaGreatDoorVPD
import Derived.Test.YteoklapcifonaaaGreatDoorVLD
open Go.Lib (hid)
namespace Go.Proofs.YteoklapcifonaaaGreatDoor
open Go.RowKit Nmx
/-- the coefficients that are kept so far -/
structure RK (nm : List UInt8) (d : Nat) (cs r : List (List UInt8 × Rat)) (q : Rat) (i : Nat) : Prop where
 can : Can ltB r
 nm4 : ∀ x ∈ r, x.1 ∈ nm4
 lt : ∀ x ∈ r, ∀ y ∈ cs.drop i, ltB x.1 y.1
 ds : ∀ x ∈ r, DS d x.2
 eq : ∀ n, cof r n = if n = nm then 0 else cof (cs.take i) n
 k : q = cof (cs.take i) nm
theorem RK.start (nm : List UInt8) (d : Nat) (cs : List (List UInt8 × Rat)) : RK nm d cs [] 0 0 :=
 ⟨trivial, fun x hx => (List.not_mem_nil hx).elim, fun x hx => (List.not_mem_nil hx).elim, fun x hx => (List.not_mem_nil hx).elim, fun n => by
   show (0 : Rat) = if n = nm then 0 else 0
   split <;> rfl, rfl⟩
theorem RK.hit {nm : List UInt8} {d : Nat} {cs r : List (List UInt8 × Rat)} {q : Rat} {i : Nat} (h : RK nm d cs r q i) (hc : Good d cs) (hi : i < cs.length) (he : cs[i].1 = nm) : RK nm d cs r cs[i].2 (i + 1) := by
 have hdr : ∀ y ∈ cs.drop (i + 1), y ∈ cs.drop i := fun y hy => by rw [List.drop_eq_getElem_cons hi]; exact List.mem_cons_of_mem _ hy
 refine ⟨h.can, h.nm4, fun x hx y hy => h.lt x hx y (hdr y hy), h.ds, fun n => ?_, ?_⟩
 · rw [h.eq n, cof_take_succ hc.can hi]
   by_cases hn : n = nm
   · rw [if_pos hn, if_pos hn]
   · rw [if_neg hn, if_neg hn, if_neg fun e => hn (by rw [← e, he])]
 · rw [cof_take_succ hc.can hi, if_pos he]
theorem RK.miss {nm : List UInt8} {d : Nat} {cs r : List (List UInt8 × Rat)} {q : Rat} {i : Nat} (h : RK nm d cs r q i) (hc : Good d cs) (hi : i < cs.length) (he : cs[i].1 ≠ nm) : RK nm d cs (r ++ [(cs[i].1, cs[i].2)]) q (i + 1) := by
 have hdr : ∀ y ∈ cs.drop (i + 1), y ∈ cs.drop i := fun y hy => by rw [List.drop_eq_getElem_cons hi]; exact List.mem_cons_of_mem _ hy
 have hm : cs[i] ∈ cs.drop i := by rw [List.drop_eq_getElem_cons hi]; exact List.mem_cons_self
 have hlt : ∀ x ∈ r, ltB x.1 cs[i].1 := fun x hx => h.lt x hx _ hm
 have hnx : ∀ y ∈ cs.drop (i + 1), ltB cs[i].1 y.1 := cof_mem hc.can (i + 1) cs[i] (by rw [List.take_succ_eq_append_getElem hi]; exact List.mem_append.2 (.inr (List.mem_singleton.2 rfl)));have hr0 : cof r cs[i].1 = 0 := cof_none fun x hx e => ord_ltB.irr cs[i].1 (by have := hlt x hx; rw [e] at this; exact this)
 have hone : ∀ x ∈ r, ∀ y ∈ [(cs[i].1, cs[i].2)], ltB x.1 y.1 := fun x hx y hy => by rw [List.mem_singleton.1 hy]; exact hlt x hx
 refine ⟨can_append h.can ⟨can_nz hc.can _ (List.getElem_mem hi), fun x hx => (List.not_mem_nil hx).elim, trivial⟩ hone, fun x hx => ?_, fun x hx y hy => ?_, fun x hx => ?_, fun n => ?_, ?_⟩
 · rcases List.mem_append.1 hx with h1 | h1
   · exact h.nm4 x h1
   · rw [List.mem_singleton.1 h1]; exact hc.nm cs[i] (List.getElem_mem hi)
 · rcases List.mem_append.1 hx with h1 | h1
   · exact h.lt x h1 y (hdr y hy)
   · rw [List.mem_singleton.1 h1]; exact hnx y hy
 · rcases List.mem_append.1 hx with h1 | h1
   · exact h.ds x h1
   · rw [List.mem_singleton.1 h1]; exact hc.ds cs[i] (List.getElem_mem hi)
 · rw [cof_append ord_ltB hone, cof_take_succ hc.can hi];have e1 : cof [(cs[i].1, cs[i].2)] n = if cs[i].1 = n then cs[i].2 else 0 := rfl
   rw [e1]
   by_cases hn : cs[i].1 = n
   · rw [if_pos hn, if_pos hn, if_neg (fun e => he (hn.trans e)), ← hn, hr0]; exact Rat.zero_add _
   · rw [if_neg hn, if_neg hn, h.eq n]; exact Rat.add_zero _
 · rw [h.k, cof_take_succ hc.can hi, if_neg he]
theorem rv_cells {w : World} {C : Array Value} {q : Rat} (h : RV w (.agg C) q) : ∃ y0 y1 y2 y3 y4 y5, C = #[y0, y1, y2, y3, y4, y5] :=
 let ⟨_, _, _, _, _, _, _, _, _, _, hC, _, _⟩ := rv_form h
 ⟨_, _, _, _, _, _, Value.agg.inj hC⟩
/-- the boxes of split -/
structure SPB (w wr : World) (s : Int) (ao : Option Addr) (n cap : Nat) (t : ByteArray) (C : Array Value) (q : Rat) (v v' : Value) (r : List (List UInt8 × Rat)) : Prop where
 a : wr.heap[w.heap.size]? = some (.cells #[.int .i64 s, .slice ao n cap, .string t] 26 (0, 0))
 r0 : wr.heap[w.heap.size + 1]? = some (.cells #[.int .i64 0, .bool false, .slice none 0 0, .int .i64 0, .bool false, .slice none 0 0] 85 (0, 0))
 r1 : wr.heap[w.heap.size + 2]? = some (.cells #[.int .i64 0, .slice none 0 0, .string ⟨#[]⟩] 26 (0, 0))
 hs : wr.heap[w.heap.size + 3]? = some (.cells #[.int .i64 s, v, .string t] 26 (0, 0))
 hk : wr.heap[w.heap.size + 4]? = some (.cells C 85 (0, 0))
 rv : RV wr (.agg C) q
 row : wr.ownsRow (w.heap.size + 5) 79 2 v' r.length (flat r)
 bel : Below w.heap.size w wr
theorem SPB.far {w wr w' : World} {s : Int} {ao : Option Addr} {n cap : Nat} {t : ByteArray} {C : Array Value} {q : Rat} {v v' : Value} {r : List (List UInt8 × Rat)} (h : SPB w wr s ao n cap t C q v v' r) (hb : Below wr.heap.size wr w') : SPB w w' s ao n cap t C q v v' r :=
 ⟨(hb.block _ (lt_of_heap h.a)).trans h.a, (hb.block _ (lt_of_heap h.r0)).trans h.r0, (hb.block _ (lt_of_heap h.r1)).trans h.r1, (hb.block _ (lt_of_heap h.hs)).trans h.hs, (hb.block _ (lt_of_heap h.hk)).trans h.hk, h.rv.far hb, row_same h.row fun g hg => hb.block _ (h.row.lt g hg).2, h.bel.trans (hb.mono h.bel.size)⟩
/-- the coefficient is stored -/
theorem SPB.put {w wr : World} {s : Int} {ao : Option Addr} {n cap : Nat} {t : ByteArray} {C : Array Value} {q : Rat} {v v' : Value} {r : List (List UInt8 × Rat)} (h : SPB w wr s ao n cap t C q v v' r) {z0 z1 z2 z3 z4 z5 : Value} {q' : Rat} (hq : RV wr (.agg #[z0, z1, z2, z3, z4, z5]) q') : SPB w (set6 wr (w.heap.size + 4) z0 z1 z2 z3 z4 z5) s ao n cap t #[z0, z1, z2, z3, z4, z5] q' v v' r := by
 obtain ⟨y0, y1, y2, y3, y4, y5, hC⟩ := rv_cells h.rv;have hk := h.hk;rw [hC] at hk;have h1 := h.a;have h2 := h.r0;have h3 := h.r1;have h4 := h.hs;have h5 := h.row;have h6 := h.bel;obtain ⟨K, hK⟩ : ∃ K, w.heap.size + 4 = K := ⟨_, rfl⟩
 have e3 : SPB w (set6 wr K z0 z1 z2 z3 z4 z5) s ao n cap t #[z0, z1, z2, z3, z4, z5] q' v v' r := by
  rw [hK] at hk;have ho : ∀ g, g ≠ K → (set6 wr K z0 z1 z2 z3 z4 z5).heap[g]? = wr.heap[g]? := fun g hg => set6_other hg _ _ _ _ _ _
  have hw : Words wr (set6 wr K z0 z1 z2 z3 z4 z5) := words_but hk (by decide) fun g _ hg => ho g hg
  have s6 := set6_heap hk z0 z1 z2 z3 z4 z5;have b6 := set6_below h6 (show w.heap.size ≤ K by omega) z0 z1 z2 z3 z4 z5;generalize set6 wr K z0 z1 z2 z3 z4 z5 = W at *;refine ⟨(ho _ (by omega)).trans h1, (ho _ (by omega)).trans h2, (ho _ (by omega)).trans h3, (ho _ (by omega)).trans h4, ?_, hq.kept hw, row_same h5 fun g hg => ho g (fun e => ?_), b6⟩
  · rw [hK]; exact s6
  · have := (h5.lt g hg).1
    omega
 rw [hK];exact e3
/-- a coefficient is appended -/
theorem SPB.app {w wr w1 : World} {s : Int} {ao : Option Addr} {n cap : Nat} {t : ByteArray} {C : Array Value} {q : Rat} {v v' : Value} {r : List (List UInt8 × Rat)} {x : List UInt8 × Rat} (h : SPB w wr s ao n cap t C q v v r) (hg : wr.grownBy w1 v.ownBlock) (hr : w1.ownsRow (w.heap.size + 5) 79 2 v' (r.length + 1) (flat r ++ [.string ⟨x.1.toArray⟩, .string (TX x.2)])) :
    SPB w (w1.setCell ⟨w.heap.size + 3, 1, none⟩ v') s ao n cap t C q v' v' (r ++ [x]) := by
 have hlt := lt_of_heap h.hk;have hne : ∀ g, g ≤ w.heap.size + 4 → some g ≠ v.ownBlock := fun g hgS e => by have := (h.row.lt g e.symm).1; omega
 have hs1 : w1.heap[w.heap.size + 3]? = some (.cells #[.int .i64 s, v, .string t] 26 (0, 0)) := (hg.block _ (by omega) (hne _ (by omega))).trans h.hs;have hset : ∀ g, g ≠ w.heap.size + 3 → (w1.setCell ⟨w.heap.size + 3, 1, none⟩ v').heap[g]? = w1.heap[g]? := fun g hgS => Below.heap_setCell _ _ _ _ hgS
 have hw : Words wr (w1.setCell ⟨w.heap.size + 3, 1, none⟩ v') := words_trans (words_grown hg h.row) (words_but hs1 (by decide) fun g _ hgS => hset g hgS);have hbel : Below w.heap.size w w1 := h.bel.grown hg h.bel.size fun g e => by have := (h.row.lt g e).1; omega
 have ho : ∀ g, g ≤ w.heap.size + 4 → g ≠ w.heap.size + 3 → (w1.setCell ⟨w.heap.size + 3, 1, none⟩ v').heap[g]? = wr.heap[g]? := fun g h1 h2 => (hset g h2).trans (hg.block g (by omega) (hne g h1))
 refine ⟨(ho _ (by omega) (by omega)).trans h.a, (ho _ (by omega) (by omega)).trans h.r0, (ho _ (by omega) (by omega)).trans h.r1, ?_, (ho _ (by omega) (by omega)).trans h.hk, h.rv.kept hw, ?_, hbel.setCell (show w.heap.size ≤ w.heap.size + 3 by omega) _⟩
 · have := heap_setCell_same w1 (w.heap.size + 3) 1 _ _ v' hs1;exact this
 · have := ownsRow_setCell_below hr (a := ⟨w.heap.size + 3, 1, none⟩) (show w.heap.size + 3 < w.heap.size + 5 by omega) v';rw [List.length_append, flat_append];exact this
theorem newL5 (w : World) (o1 o2 o3 o4 o5 : Obj) : (((((w.alloc o1).alloc o2).alloc o3).alloc o4).alloc o5).heap[w.heap.size]? = some o1 ∧ (((((w.alloc o1).alloc o2).alloc o3).alloc o4).alloc o5).heap[w.heap.size + 1]? = some o2 ∧ (((((w.alloc o1).alloc o2).alloc o3).alloc o4).alloc o5).heap[w.heap.size + 2]? = some o3 ∧ (((((w.alloc o1).alloc o2).alloc o3).alloc o4).alloc o5).heap[w.heap.size + 3]? = some o4 ∧ (((((w.alloc o1).alloc o2).alloc o3).alloc o4).alloc o5).heap[w.heap.size + 4]? = some o5 ∧ Below w.heap.size w (((((w.alloc o1).alloc o2).alloc o3).alloc o4).alloc o5) := by
 obtain ⟨h1, h2, h3, hb⟩ := newL3 w o1 o2 o3;have h4 := heap_alloc_new (((w.alloc o1).alloc o2).alloc o3) o4;have h5 := heap_alloc_new ((((w.alloc o1).alloc o2).alloc o3).alloc o4) o5;refine ⟨heap_al (heap_al h1 _) _, heap_al (heap_al h2 _) _, heap_al (heap_al h3 _) _, ?_, ?_, ?_⟩
 · have := heap_al h4 o5; simpa using this
 · simpa using h5
 · have b1 := hb.alloc hb.size o4;exact b1.alloc b1.size o5
/-- a number and an expression are handed back -/
def GetsKL (q : Rat) (s : Int) (d : Nat) (c : Rat) (f : List UInt8 → Rat) (w : World) (e : Ending) (w' : World) : Prop := ∃ rs u v, e = .returned (.tuple #[u, v]) ∧ RV w' u q ∧ LV w' v s d c rs ∧ (∀ n, cof rs n = f n) ∧ Below w.heap.size w w'
/-- what split leaves -/
structure Fin6 (w W : World) (R0 R1 : Nat) (s1 : Int) (b1 : Bool) (a1 : Option Addr) (n1 c1 : Nat) (s2 : Int) (b2 : Bool) (a2 : Option Addr) (n2 c2 : Nat) (q : Rat) (s : Int) (av : Option Addr) (n cv : Nat) (tc : ByteArray) (d : Nat) (c : Rat) (r : List (List UInt8 × Rat)) : Prop where
 h0 : W.heap[R0]? = some (.cells #[.int .i64 s1, .bool b1, .slice a1 n1 c1, .int .i64 s2, .bool b2, .slice a2 n2 c2] 85 (0, 0))
 h1 : W.heap[R1]? = some (.cells #[.int .i64 s, .slice av n cv, .string tc] 26 (0, 0))
 rv : RV W (.agg #[.int .i64 s1, .bool b1, .slice a1 n1 c1, .int .i64 s2, .bool b2, .slice a2 n2 c2]) q
 lv : LV W (.agg #[.int .i64 s, .slice av n cv, .string tc]) s d c r
 bel : Below w.heap.size w W
theorem fin6 {w wr : World} {R0 R1 : Nat} {s1 : Int} {b1 : Bool} {a1 : Option Addr} {n1 c1 : Nat} {s2 : Int} {b2 : Bool} {a2 : Option Addr} {n2 c2 : Nat} {q : Rat} {s : Int} {av : Option Addr} {n cv : Nat} {tc : ByteArray} {d : Nat} {c : Rat} {r : List (List UInt8 × Rat)} {u0 u1 u2 u3 u4 u5 z0 z1 z2 : Value} (h0 : wr.heap[R0]? = some (.cells #[u0, u1, u2, u3, u4, u5] 85 (0, 0))) (h1 : wr.heap[R1]? = some (.cells #[z0, z1, z2] 26 (0, 0))) (hb0 : w.heap.size ≤ R0) (hb1 : w.heap.size ≤ R1) (hne : R0 ≠ R1)
    (hv : RV wr (.agg #[.int .i64 s1, .bool b1, .slice a1 n1 c1, .int .i64 s2, .bool b2, .slice a2 n2 c2]) q) (hl : LV wr (.agg #[.int .i64 s, .slice av n cv, .string tc]) s d c r) (hbel : Below w.heap.size w wr) :
    Fin6 w ((((set6 wr R0 (.int .i64 s1) (.bool b1) (.slice a1 n1 c1) (.int .i64 s2) (.bool b2) (.slice a2 n2 c2)).setCell ⟨R1, 0, none⟩ (.int .i64 s)).setCell ⟨R1, 1, none⟩ (.slice av n cv)).setCell ⟨R1, 2, none⟩ (.string tc)).drew R0 R1 s1 b1 a1 n1 c1 s2 b2 a2 n2 c2 q s av n cv tc d c r := by
 have ho : ∀ g, g ≠ R0 → (set6 wr R0 (.int .i64 s1) (.bool b1) (.slice a1 n1 c1) (.int .i64 s2) (.bool b2) (.slice a2 n2 c2)).heap[g]? = wr.heap[g]? := fun g hg => set6_other hg _ _ _ _ _ _
 have k0 := set6_heap h0 (.int .i64 s1) (.bool b1) (.slice a1 n1 c1) (.int .i64 s2) (.bool b2) (.slice a2 n2 c2);have k1 := (ho R1 hne.symm).trans h1;have kb := set6_below hbel hb0 (.int .i64 s1) (.bool b1) (.slice a1 n1 c1) (.int .i64 s2) (.bool b2) (.slice a2 n2 c2);have kv := hv.kept (words_but h0 (by decide) fun g _ hg => ho g hg);have kl := hl.but h0 (by decide) ho;generalize set6 wr R0 (.int .i64 s1) (.bool b1) (.slice a1 n1 c1) (.int .i64 s2) (.bool b2) (.slice a2 n2 c2) = W1 at *;have hp : ∀ g, g ≠ R1 → (((W1.setCell ⟨R1, 0, none⟩ (.int .i64 s)).setCell ⟨R1, 1, none⟩ (.slice av n cv)).setCell ⟨R1, 2, none⟩ (.string tc)).heap[g]? = W1.heap[g]? := fun g hg => set3_other _ _ _ hg
 have j1 := set3_heap (x := .int .i64 s) (y := .slice av n cv) (z := .string tc) k1;have jb := ((kb.setCell (p := ⟨R1, 0, none⟩) hb1 (.int .i64 s)).setCell (p := ⟨R1, 1, none⟩) hb1 (.slice av n cv)).setCell (p := ⟨R1, 2, none⟩) hb1 (.string tc);have jv := kv.kept (words_but k1 (by decide) fun g _ hg => hp g hg);have jl := kl.but k1 (by decide) hp;exact ⟨(hp R0 hne).trans k0, j1, jv.far (Below.refl _ _).drew, jl.far (Below.refl _ _).drew, jb.drew⟩
/-- a number and an expression are handed back -/
theorem end_kl {fn : Func} {t u : Tmp} {a : Act} {w2 : World} {R0 R1 : Nat} {s1 : Int} {b1 : Bool} {a1 : Option Addr} {n1 c1 : Nat} {s2 : Int} {b2 : Bool} {a2 : Option Addr} {n2 c2 : Nat} {s : Int} {ao : Option Addr} {n c : Nat} {tx : ByteArray} {post : Ending → World → Prop} (hres : fn.results = #[.cell t 85, .cell u 26]) (hd : a.defers = []) (ht : a.tmps.getD t undef = .pointer (some ⟨R0, 0, none⟩)) (hu : a.tmps.getD u undef = .pointer (some ⟨R1, 0, none⟩))
    (h0 : w2.heap[R0]? = some (.cells #[.int .i64 s1, .bool b1, .slice a1 n1 c1, .int .i64 s2, .bool b2, .slice a2 n2 c2] 85 (0, 0))) (h1 : w2.heap[R1]? = some (.cells #[.int .i64 s, .slice ao n c, .string tx] 26 (0, 0))) (h : post (.returned (.tuple #[.agg #[.int .i64 s1, .bool b1, .slice a1 n1 c1, .int .i64 s2, .bool b2, .slice a2 n2 c2], .agg #[.int .i64 s, .slice ao n c, .string tx]])) w2) :
    bodyPost Tryz.prog fn post .ret a w2 := by
 have k0 := heap_cell h0 0;have k1 := heap_cell h0 1;have k2 := heap_cell h0 2;have k3 := heap_cell h0 3;have k4 := heap_cell h0 4;have k5 := heap_cell h0 5;have j0 := heap_cell h1 0;have j1 := heap_cell h1 1;have j2 := heap_cell h1 2
 simp at k0 k1 k2 k3 k4 k5 j0 j1 j2
 refine bodyPost_ret (v := .tuple #[.agg #[.int .i64 s1, .bool b1, .slice a1 n1 c1, .int .i64 s2, .bool b2, .slice a2 n2 c2], .agg #[.int .i64 s, .slice ao n c, .string tx]]) ?_ hd h;have ht' : a.tmps[t]?.getD undef = .pointer (some ⟨R0, 0, none⟩) := by simpa using ht
 have hu' : a.tmps[u]?.getD undef = .pointer (some ⟨R1, 0, none⟩) := by simpa using hu
 simp [results, hres, go_sem, ht', hu', k0, k1, k2, k3, k4, k5, j0, j1, j2]
section
set_option maxRecDepth 100000
set_option maxHeartbeats 4000000
theorem split_any {d : Nat} {w : World} {v : Value} {s : Int} {c : Rat} {cs : List (List UInt8 × Rat)} (nm : List UInt8) (h : LV w v s d c cs) (hd : d ≤ 3000) (hE : Env w) :
    Calls Tryz.prog 89 #[v, .string ⟨nm.toArray⟩] w (GetsKL (cof cs nm) s d c (fun n => if n = nm then 0 else cof cs n) w) := by
 obtain ⟨ao, g, off, cap, rfl, hc, hty, hg, dc⟩ := h;have HC := hid hc;have HG := hid hg;have HT := hid hty;have HD := hid dc;have hmust : ∀ W q, Below w.heap.size w W → DS d q → Calls Tryz.prog 56 #[.string (TX q)] W (GetsQ q W) := fun W q hb hq => mustT hq hd W (hE.far hb)
 have HM := hid hmust;obtain ⟨n, hn⟩ : ∃ n, cs.length = n := ⟨_, rfl⟩
 rw [hn];have hn4 : n ≤ 4 := by rw [← hn]; exact can_len hg.can hg.nm
 have HN := hid hn;obtain ⟨tc, htc⟩ : ∃ t, TX c = t := ⟨_, rfl⟩
 rw [htc];have HTC := hid htc;obtain ⟨tn, htn⟩ : ∃ t : ByteArray, ⟨nm.toArray⟩ = t := ⟨_, rfl⟩
 rw [htn];have HTN := hid htn;clear hc hg hty dc hmust hn htc htn hE
 go_enter Tryz.func89, Tryz.ntmps89
 go_upto_block 1 with fail
 obtain ⟨m0, m1, m2, m3, m4, mb⟩ := newL5 w (.cells #[.int .i64 s, .slice ao n cap, .string tc] 26) (.cells #[.int .i64 0, .bool false, .slice none 0 0, .int .i64 0, .bool false, .slice none 0 0] 85) (.cells #[.int .i64 0, .slice none 0 0, .string ⟨#[]⟩] 26) (.cells #[.int .i64 s, .slice none 0 0, .string tc] 26) (.cells #[.int .i64 0, .bool false, .slice none 0 0, .int .i64 0, .bool false, .slice none 0 0] 85);have HS := hid (⟨m0, m1, m2, m3, m4, zeroRV _, World.ownsRow_nil _ _ _ _, mb⟩ : SPB w _ s ao n cap tc _ 0 (.slice none 0 0) (.slice none 0 0) []);clear m0 m1 m2 m3 m4;have HC5 := hid (HC.out.far mb);clear mb;generalize ((((w.alloc (.cells #[.int .i64 s, .slice ao n cap, .string tc] 26)).alloc (.cells #[.int .i64 0, .bool false, .slice none 0 0, .int .i64 0, .bool false, .slice none 0 0] 85)).alloc (.cells #[.int .i64 0, .slice none 0 0, .string ⟨#[]⟩] 26)).alloc (.cells #[.int .i64 s, .slice none 0 0, .string tc] 26)).alloc (.cells #[.int .i64 0, .bool false, .slice none 0 0, .int .i64 0, .bool false, .slice none 0 0] 85) = w5 at *
 go_loopg [18] n (fun gh v18 wr => ∃ (i : Nat) (v : Value) (r : List (List UInt8 × Rat)) (q : Rat) (C : Array Value), gh = n - i ∧ i ≤ n ∧ v18 = .int .i64 i ∧ SPB w wr s ao n cap tc C q v v r ∧ RK nm d cs r q i)
 case atStart => exact ⟨0, .slice none 0 0, [], 0, _, rfl, by omega, rfl, HS.out, RK.start _ _ _⟩
 case round =>
  obtain ⟨i, v, r, q, C, rfl, hi, rfl, hps, hrk⟩ := hrel;have HP := hid hps;have HR := hid hrk;clear hps hrk HS HC5;have hi0 : (0 : Int) ≤ (i : Int) := by omega
  by_cases hlt : i < n
  · have hlt' : (i : Int) < (n : Int) := by omega
    have hcs : i < cs.length := by rw [HN.out]; exact hlt
    have had := HC.out.ad (by have := HC.out.le; omega);subst had;obtain ⟨y0, y1, y2, y3, y4, y5, rfl⟩ := rv_cells HP.out.rv;have c0 := (HC.out.far HP.out.bel).nm i hcs;have c1' := (HC.out.far HP.out.bel).nu i hcs;have hmu := fun W hW => HM.out W cs[i].2 hW (HG.out.ds _ (List.getElem_mem hcs))
    have HMU := hid hmu;have hnx : ∀ he : cs[i].1 = nm, RK nm d cs r cs[i].2 (i + 1) := fun he => HR.out.hit HG.out hcs he
    have hnm : ∀ he : cs[i].1 ≠ nm, RK nm d cs (r ++ [(cs[i].1, cs[i].2)]) q (i + 1) := fun he => HR.out.miss HG.out hcs he
    have HNX := hid hnx;have HNM := hid hnm;have HRL : Hid (r.length ≤ 4) := hid (can_len HR.out.can HR.out.nm4);clear hmu hnx hnm;obtain ⟨tk, htk⟩ : ∃ tk : ByteArray, (⟨cs[i].1.toArray⟩ : ByteArray) = tk := ⟨_, rfl⟩
    have HTK := hid htk;rw [htk] at c0;obtain ⟨tq, htq⟩ : ∃ tq : ByteArray, TX cs[i].2 = tq := ⟨_, rfl⟩
    have HTQ := hid htq;rw [htq] at c1' HMU;clear htk htq;obtain ⟨cq, hcq⟩ : ∃ cq : Rat, cs[i].2 = cq := ⟨_, rfl⟩
    rw [hcq] at HMU HNX HNM HTQ;obtain ⟨cn, hcn⟩ : ∃ cn, cs[i].1 = cn := ⟨_, rfl⟩
    rw [hcn] at HNX HNM HTK;clear hcq hcn;have hal : Below wr.heap.size wr (wr.alloc (.cells #[.string tk, .string tq] 79)) := (Below.refl _ _).alloc (Nat.le_refl _) _;have HA := hid (HP.out.far hal);have HB := hid (heap_alloc_new wr (.cells #[.string tk, .string tq] 79));clear hal
    by_cases he : cn = nm
    · have htt : (tk.toList == tn.toList) = true := by rw [← HTK.out, ← HTN.out, he]; exact beq_self_eq_true _
      have HRK := hid (HNX.out he);clear he
      go_wp2_with fail
      generalize wr.alloc (.cells #[.string tk, .string tq] 79) = w6 at *;refine (HMU.out w6 HA.out.bel).mono ?_;rintro e w7 ⟨u, rfl, hu, hb⟩;have HA7 := hid (HA.out.far hb);have HU := hid hu;obtain ⟨s1, b1, a1, n1, c1, s2, b2, a2, n2, c2, rfl, -⟩ := rv_form hu;have hk' : w7.heap[w.heap.size + 1 + 1 + 1 + 1]? = some (.cells #[y0, y1, y2, y3, y4, y5] 85 (0, 0)) := HA7.out.hk;have k0 := heap_cell hk' 0;have k1 := heap_cell hk' 1;have k2 := heap_cell hk' 2;have k3 := heap_cell hk' 3;have k4 := heap_cell hk' 4;have k5 := heap_cell hk' 5;have fr := fun i => heap_fz hk' i
      clear hu hb hk' c0 c1' HB HA HP
      go_wp2_with fail
      go_roundg (n - (i + 1))
      case rel => exact ⟨i + 1, v, r, cq, _, rfl, by omega, by go_num, HA7.out.put HU.out, HRK.out⟩
      case measure => omega
    · have htt : (tk.toList == tn.toList) = false := by
        rw [beq_eq_false_iff_ne];intro e;refine he ?_;rw [← HTK.out, ← HTN.out] at e
        simpa using e
      have HRK := hid (HNM.out he);clear he
      go_upto_region 8 with fail
      generalize wr.alloc (.cells #[.string tk, .string tq] 79) = w6 at *;generalize wr.heap.size = SC at *;have hs' : w6.heap[w.heap.size + 1 + 1 + 1]? = some (.cells #[.int .i64 s, v, .string tc] 26 (0, 0)) := HA.out.hs;obtain ⟨i0, hi0', hz0, hz1, hz2⟩ := info_parts infoCoef;obtain ⟨av, gv, cv, hv, -, -⟩ := csl_of_row HA.out.row;have HV := hid hv;rw [hv] at hs';have e1 := heap_cell hs' 1;have fr := fun i => heap_fz hs' i
      have q0 := heap_cell HB.out 0;have q1 := heap_cell HB.out 1;have hlt5 := lt_of_heap HA.out.hk;have hrow := HA.out.row;rw [hv] at hrow;have HRW := hid hrow;have HRL' := HRL.out;clear c0 c1' HP hs' hv hrow
      go_wp2_with (at_builtin; refine wpList_append_own _ rfl (.tmp 30) (.tmp 32) 24 rfl (w.heap.size + 5) 79 i0 _ 2 32 Tryz.underlying24 hi0' hz0 hz1 hz2 rfl (by decide) (.slice av r.length cv) r.length (flat r) rfl (HRW.out.alloc _) ⟨w6.heap.size, 0, none⟩ 1 1 [.string tk, .string tq] rfl rfl (World.news_of_block (cs := #[.string tk, .string tq]) (t := 79) (fr := (0, 0)) (heap_alloc_new w6 _)) (by simp [Value.oneCell']) (by unfold maxLen; omega) (by omega) (by simp; omega) ?_)
      intro v' w7 hown hgrow _;have hap := (HA.out.far ((Below.refl w6.heap.size w6).alloc (Nat.le_refl _) (.cells #[.string tk, .string tq] 79))).app (v' := v') (x := (cn, cq)) (by rw [HV.out]; exact hgrow) (by show w7.ownsRow _ _ _ _ _ (flat r ++ [.string ⟨cn.toArray⟩, .string (TX cq)]); rw [HTK.out, HTQ.out]; exact hown)
      have hs' : w7.heap[w.heap.size + 1 + 1 + 1]? = some (.cells #[.int .i64 s, .slice av r.length cv, .string tc] 26 (0, 0)) := by
       have := (HA.out.far ((Below.refl w6.heap.size w6).alloc (Nat.le_refl _) (.cells #[.string tk, .string tq] 79))).hs;rw [HV.out] at this;exact (hgrow.block _ (by simp; omega) (fun e => by have := (HRW.out.lt _ e.symm).1; omega)).trans this
      obtain ⟨av2, gv2, cv2, hv2, -, -⟩ := csl_of_row hap.row;rw [hv2] at hap;subst hv2;rw [show (r ++ [(cn, cq)]).length = r.length + 1 by rw [List.length_append]; rfl] at hap;have HAP := hid hap;have e1 := heap_cell hs' 1;have fr := fun i => heap_fz hs' i
      clear hown hgrow hap hs' HRW HV HA HB q0 q1 hz0 hz1 hz2 hi0';rw [show (r ++ [(cn, cq)]).length = r.length + 1 by rw [List.length_append]; rfl]
      go_wp2_with fail
      go_roundg (n - (i + 1))
      case rel => exact ⟨i + 1, _, _, _, _, rfl, by omega, by go_num, HAP.out, HRK.out⟩
      case measure => omega
  · have hlt' : ¬ ((i : Int) < (n : Int)) := by omega
    obtain rfl : i = n := by omega
    obtain ⟨y0, y1, y2, y3, y4, y5, rfl⟩ := rv_cells HP.out.rv;obtain ⟨s1, b1, a1, n1, c1, s2, b2, a2, n2, c2, hy, -⟩ := rv_form HP.out.rv;injection hy with hy;injection hy with hy;injection hy with e0 hy;injection hy with e1 hy;injection hy with e2 hy;injection hy with e3 hy;injection hy with e4 hy;injection hy with e5 hy;subst e0 e1 e2 e3 e4 e5;obtain ⟨av, gv, cv, hv, hrow, hty⟩ := csl_of_row2 HP.out.row;have HLV : Hid (LV wr (.agg #[.int .i64 s, .slice av r.length cv, .string tc]) s d c r) := hid ⟨av, gv, 0, cv, by rw [HTC.out], hrow, hty, ⟨HR.out.can, HR.out.nm4, HR.out.ds⟩, HD.out⟩;have hs' : wr.heap[w.heap.size + 1 + 1 + 1]? = some (.cells #[.int .i64 s, v, .string tc] 26 (0, 0)) := HP.out.hs;have hk' : wr.heap[w.heap.size + 1 + 1 + 1 + 1]? = some (.cells #[.int .i64 s1, .bool b1, .slice a1 n1 c1, .int .i64 s2, .bool b2, .slice a2 n2 c2] 85 (0, 0)) := HP.out.hk;have hr0 : wr.heap[w.heap.size + 1]? = some (.cells #[.int .i64 0, .bool false, .slice none 0 0, .int .i64 0, .bool false, .slice none 0 0] 85 (0, 0)) := HP.out.r0;have hr1 : wr.heap[w.heap.size + 1 + 1]? = some (.cells #[.int .i64 0, .slice none 0 0, .string ⟨#[]⟩] 26 (0, 0)) := HP.out.r1;rw [hv] at hs';have HRV := hid HP.out.rv;have HBL := hid HP.out.bel;have HR0 := hid hr0;have HR1 := hid hr1
    have hqn : q = cof cs nm := by
     have := HR.out.k;rwa [List.take_of_length_le (Nat.le_of_eq HN.out)] at this
    have hfn : ∀ n, cof r n = if n = nm then 0 else cof cs n := fun n => by
     have := HR.out.eq n;rwa [List.take_of_length_le (Nat.le_of_eq HN.out)] at this
    have HQN := hid hqn;have HFN := hid hfn;clear hv hrow hty HP hqn hfn;have k0 := heap_cell hk' 0;have k1 := heap_cell hk' 1;have k2 := heap_cell hk' 2;have k3 := heap_cell hk' 3;have k4 := heap_cell hk' 4;have k5 := heap_cell hk' 5;have e0 := heap_cell hs' 0;have e1 := heap_cell hs' 1;have e2 := heap_cell hs' 2;have fr0 := fun i => heap_fz hr0 i
    have fr1 := fun i => heap_fz hr1 i
    have x0 := heap_cell hr0 0;have x1 := heap_cell hr0 1;have x2 := heap_cell hr0 2;have x3 := heap_cell hr0 3;have x4 := heap_cell hr0 4;have x5 := heap_cell hr0 5;have z0 := heap_cell hr1 0;have z1 := heap_cell hr1 1;have z2 := heap_cell hr1 2;clear hr0 hr1 hs' hk'
    go_wp2_with fail
    go_region
    have hfin : Fin6 w ((((((((((wr.setCell ⟨w.heap.size + 1, 0, none⟩ (.int .i64 s1)).setCell ⟨w.heap.size + 1, 1, none⟩ (.bool b1)).setCell ⟨w.heap.size + 1, 2, none⟩ (.slice a1 n1 c1)).setCell ⟨w.heap.size + 1, 3, none⟩ (.int .i64 s2)).setCell ⟨w.heap.size + 1, 4, none⟩ (.bool b2)).setCell ⟨w.heap.size + 1, 5, none⟩ (.slice a2 n2 c2)).setCell ⟨w.heap.size + 1 + 1, 0, none⟩ (.int .i64 s)).setCell ⟨w.heap.size + 1 + 1, 1, none⟩ (.slice av r.length cv)).setCell ⟨w.heap.size + 1 + 1, 2, none⟩ (.string tc))).drew (w.heap.size + 1) (w.heap.size + 1 + 1) s1 b1 a1 n1 c1 s2 b2 a2 n2 c2 q s av r.length cv tc d c r := fin6 HR0.out HR1.out (by omega) (by omega) (by omega) HRV.out HLV.out HBL.out;generalize ((((((((((wr.setCell ⟨w.heap.size + 1, 0, none⟩ (.int .i64 s1)).setCell ⟨w.heap.size + 1, 1, none⟩ (.bool b1)).setCell ⟨w.heap.size + 1, 2, none⟩ (.slice a1 n1 c1)).setCell ⟨w.heap.size + 1, 3, none⟩ (.int .i64 s2)).setCell ⟨w.heap.size + 1, 4, none⟩ (.bool b2)).setCell ⟨w.heap.size + 1, 5, none⟩ (.slice a2 n2 c2)).setCell ⟨w.heap.size + 1 + 1, 0, none⟩ (.int .i64 s)).setCell ⟨w.heap.size + 1 + 1, 1, none⟩ (.slice av r.length cv)).setCell ⟨w.heap.size + 1 + 1, 2, none⟩ (.string tc))).drew = W at hfin ⊢;have HF := hid hfin;clear hfin k0 k1 k2 k3 k4 k5 e0 e1 e2 fr0 fr1 x0 x1 x2 x3 x4 x5 z0 z1 z2
    go_wp2_with fail
    refine end_kl rfl rfl rfl rfl HF.out.h0 HF.out.h1 ?_;exact ⟨r, _, _, rfl, HQN.out ▸ HF.out.rv, HF.out.lv, HFN.out, HF.out.bel⟩
end
end Go.Proofs.YteoklapcifonaaaGreatDoor
/- The reference's CoefOf and whole. -/
namespace Go.Proofs.YteoklapcifonaaaGreatDoor
open Go.RowKit Nmx
theorem cof_at {l : List (List UInt8 × Rat)} (hc : Can ltB l) {i : Nat} (h : i < l.length) {n : List UInt8} (he : l[i].1 = n) : cof l n = l[i].2 := by
 have hd : ∀ x ∈ l.take (i + 1), ∀ y ∈ l.drop (i + 1), ltB x.1 y.1 := cof_mem hc (i + 1);have e1 := cof_append ord_ltB hd n;rw [List.take_append_drop] at e1
 rw [e1, cof_take_succ hc h, if_pos he, cof_none (l := l.drop (i + 1)) (fun y hy e => ord_ltB.irr n (by
  have := hd l[i] (by rw [List.take_succ_eq_append_getElem h]; exact List.mem_append.2 (.inr (List.mem_singleton.2 rfl))) y hy
  rw [he, e] at this; exact this))]
 exact Rat.add_zero _
section
set_option maxRecDepth 100000
set_option maxHeartbeats 8000000
theorem refCoefOf_any {d : Nat} {w : World} {v : Value} {s : Int} {c : Rat} {cs : List (List UInt8 × Rat)} (nm : List UInt8) (h : LV w v s d c cs) :
    Calls Tryz.prog 90 #[v, .string ⟨nm.toArray⟩] w fun e w' => e = .returned (.string (TX (cof cs nm))) ∧ Below w.heap.size w w' := by
 obtain ⟨ao, g, off, cap, rfl, hC, -, hg, -⟩ := h;have HH := hid hC;have hn4 : cs.length ≤ 4 := can_len hg.can hg.nm;have HG := hid hg;have HB0 : Hid (Below w.heap.size w (w.alloc (.cells #[.int .i64 s, .slice ao cs.length cap, .string (TX c)] 26))) := hid ((Below.refl _ _).alloc (Nat.le_refl _) _);have HX0 := hid (heap_alloc_new w (.cells #[.int .i64 s, .slice ao cs.length cap, .string (TX c)] 26));obtain ⟨n, hn⟩ : ∃ n, cs.length = n := ⟨_, rfl⟩
 have HN := hid hn;rw [hn] at hn4 HB0 HX0 ⊢;clear hC hg hn;generalize TX c = tc at *;obtain ⟨tn, htn⟩ : ∃ t : ByteArray, ⟨nm.toArray⟩ = t := ⟨_, rfl⟩
 rw [htn];have HTN := hid htn;clear htn
 go_enter Tryz.func90, Tryz.ntmps90
 go_wp2_with fail
 generalize w.alloc (.cells #[.int .i64 s, .slice ao n cap, .string tc] 26) = w1 at *
 go_loopg [5] n (fun gh iv wr => ∃ k : Nat, gh = n - k ∧ k ≤ n ∧ iv = .int .i64 k ∧ wr = w1 ∧ cof (cs.take k) nm = 0)
 case atStart => exact ⟨0, rfl, Nat.zero_le _, rfl, rfl, rfl⟩
 case round =>
  obtain ⟨k, rfl, hk, rfl, rfl, h0⟩ := hrel;have H0 := hid h0;clear h0;have x1 := heap_cell HX0.out 1
  by_cases hlt : k < n
  · have had := HH.out.ad (by have := HH.out.le; have := HN.out; omega);subst had;have hcs : k < cs.length := by rw [HN.out]; exact hlt
    have hlti : (k : Int) < (n : Int) := by omega
    have hki0 : (0 : Int) ≤ (k : Int) := by omega
    have y0 := (HH.out.far HB0.out).nm k hcs;have y1 := (HH.out.far HB0.out).nu k hcs;have hsu := cof_take_succ HG.out.can hcs nm;have hwh : cs[k].1 = nm → cof cs nm = cs[k].2 := fun he => cof_at HG.out.can hcs he
    have HSU := hid hsu;have HWH := hid hwh;clear hsu hwh;obtain ⟨tk, htk⟩ : ∃ tk : ByteArray, (⟨cs[k].1.toArray⟩ : ByteArray) = tk := ⟨_, rfl⟩
    have HTK := hid htk;rw [htk] at y0;obtain ⟨tq, htq⟩ : ∃ tq : ByteArray, TX cs[k].2 = tq := ⟨_, rfl⟩
    have HTQ := hid htq;rw [htq] at y1;clear htk htq;obtain ⟨cn, hcn⟩ : ∃ cn, cs[k].1 = cn := ⟨_, rfl⟩
    rw [hcn] at HTK HSU HWH;clear hcn
    by_cases he : cn = nm
    · have htt : (tk.toList == tn.toList) = true := by rw [← HTK.out, ← HTN.out, he]; exact beq_self_eq_true _
      have hq : TX (cof cs nm) = tq := by rw [HWH.out he, HTQ.out]
      have HQ := hid hq;clear he hq
      go_wp2_with fail
      go_ret
      exact ⟨by rw [HQ.out]; rfl, HB0.out⟩
    · have htt : (tk.toList == tn.toList) = false := by
        rw [beq_eq_false_iff_ne];intro e;refine he ?_;rw [← HTK.out, ← HTN.out] at e
        simpa using e
      have hs := HSU.out;rw [if_neg he, H0.out] at hs;have HS := hid hs;clear he hs
      go_wp2_with fail
      go_roundg (n - (k + 1))
      case rel => exact ⟨k + 1, rfl, by omega, by go_num, rfl, HS.out⟩
      case measure => omega
  · obtain rfl : k = n := by omega
    have hlti : ¬ ((k : Int) < (k : Int)) := by omega
    have hz : TX (cof cs nm) = ⟨#[48]⟩ := by
     have := H0.out;rw [List.take_of_length_le (Nat.le_of_eq HN.out)] at this;rw [this, ← tx_int_zero]
    have HZ := hid hz;clear hz
    go_wp2_with fail
    go_ret
    exact ⟨by rw [HZ.out]; rfl, HB0.out⟩
end
end Go.Proofs.YteoklapcifonaaaGreatDoor
/- The reference's 'without': an expression without a variable. -/
namespace Go.Proofs.YteoklapcifonaaaGreatDoor
open Go.RowKit Nmx
section
set_option maxRecDepth 100000
set_option maxHeartbeats 8000000
theorem refConstant_any (s : Int) (t : ByteArray) (w : World) : Calls Tryz.prog 135 #[.int .i64 s, .string t] w fun e w' => e = .returned (.agg #[.int .i64 s, .slice none 0 0, .string t]) ∧ Below w.heap.size w w' := by
 have HB0 : Hid (Below w.heap.size w (w.alloc (.cells #[.int .i64 0, .slice none 0 0, .string ⟨#[]⟩] 26))) := hid ((Below.refl _ _).alloc (Nat.le_refl _) _);have hx := heap_alloc_new w (.cells #[.int .i64 0, .slice none 0 0, .string ⟨#[]⟩] 26);have HX := hid hx;clear hx
 go_enter Tryz.func135, Tryz.ntmps135
 go_upto_region 1 with fail
 generalize w.alloc (.cells #[.int .i64 0, .slice none 0 0, .string ⟨#[]⟩] 26) = w1 at *;have x0 := heap_cell HX.out 0;have x1 := heap_cell HX.out 1;have x2 := heap_cell HX.out 2;have fr := fun i => heap_fz HX.out i
 go_wp2_with fail
 refine end_lin rfl rfl rfl HX.out ?_;exact ⟨rfl, ((HB0.out.setCell (Nat.le_refl _) _).setCell (Nat.le_refl _) _).setCell (Nat.le_refl _) _⟩
theorem refWithout_any {d : Nat} {w : World} {v : Value} {s : Int} {c : Rat} {cs : List (List UInt8 × Rat)} (nm : List UInt8) (h : LV w v s d c cs) :
    Calls Tryz.prog 91 #[v, .string ⟨nm.toArray⟩] w (GetsL s d c (fun n => if n = nm then 0 else cof cs n) w) := by
 obtain ⟨ao, g, off, cap, rfl, hC, -, hg, hd⟩ := h;have hn4 : cs.length ≤ 4 := can_len hg.can hg.nm;have HC := hid hC;have HG := hid hg;have HD := hid hd;obtain ⟨n, hn⟩ : ∃ n, cs.length = n := ⟨_, rfl⟩
 have HN := hid hn;rw [hn] at hn4 ⊢;obtain ⟨tc, htc⟩ : ∃ t, TX c = t := ⟨_, rfl⟩
 rw [htc];have HTC := hid htc;obtain ⟨tn, htn⟩ : ∃ t : ByteArray, ⟨nm.toArray⟩ = t := ⟨_, rfl⟩
 rw [htn];have HTN := hid htn;obtain ⟨m1, m2, mb⟩ := newL2 w (.cells #[.int .i64 s, .slice ao n cap, .string tc] 26) (.cells #[.int .i64 0, .slice none 0 0, .string ⟨#[]⟩] 26);have HTB := hid (⟨m1, m2, mb⟩ : TB w _ s ao n cap tc);clear hC hg hd hn htc htn m1 m2 mb
 go_enter Tryz.func91, Tryz.ntmps91
 go_wp2_with fail
 generalize (w.alloc (.cells #[.int .i64 s, .slice ao n cap, .string tc] 26)).alloc (.cells #[.int .i64 0, .slice none 0 0, .string ⟨#[]⟩] 26) = w1 at *;refine (refConstant_any s tc w1).mono ?_;rintro e w2 ⟨rfl, hb⟩;have HTB2 := hid (HTB.out.far hb);clear hb HTB;have hal : Below w2.heap.size w2 (w2.alloc (.cells #[.int .i64 s, .slice none 0 0, .string tc] 26)) := (Below.refl _ _).alloc (Nat.le_refl _) _;have HTS := hid (⟨HTB2.out.far hal, heap_alloc_new _ _, World.ownsRow_nil _ _ _ _, lt_of_heap HTB2.out.r⟩ : TS w _ s ao n cap tc tc w2.heap.size (.slice none 0 0) (.slice none 0 0) []);have p1 := heap_cell HTB2.out.a 1;clear hal
 go_upto_block 1 with fail
 generalize w2.alloc (.cells #[.int .i64 s, .slice none 0 0, .string tc] 26) = w3 at *;generalize w2.heap.size = S at *;clear p1 HTB2
 go_loopg [6] n (fun gh v6 wr => ∃ (j : Nat) (v : Value) (rs : List (List UInt8 × Rat)), gh = n - j ∧ j ≤ n ∧ v6 = .int .i64 j ∧ TS w wr s ao n cap tc tc S v v rs ∧ ∃ q, RK nm d cs rs q j)
 case atStart => exact ⟨0, _, _, rfl, Nat.zero_le _, rfl, HTS.out, 0, RK.start _ _ _⟩
 case round =>
  obtain ⟨j, v, rs, rfl, hj, rfl, hts, q, hrk⟩ := hrel;have HT2 := hid hts;have HR := hid hrk;have p1 := heap_cell HT2.out.tb.a 1;have hla := lt_of_heap HT2.out.tb.a;clear hts hrk HTS;have hj0 : (0 : Int) ≤ (j : Int) := by omega
  by_cases hlt : j < n
  · have hlt' : (j : Int) < (n : Int) := by omega
    have hl : j < cs.length := by rw [HN.out]; exact hlt
    have had := HC.out.ad (by have := HC.out.le; have := HN.out; omega);subst had;have c0 := (HC.out.far HT2.out.tb.bel).nm j hl;have hnx : ∀ he : cs[j].1 = nm, RK nm d cs rs cs[j].2 (j + 1) := fun he => HR.out.hit HG.out hl he
    have hnm : ∀ he : cs[j].1 ≠ nm, RK nm d cs (rs ++ [(cs[j].1, cs[j].2)]) q (j + 1) := fun he => HR.out.miss HG.out hl he
    have HNX := hid hnx;have HNM := hid hnm;have HRL : Hid (rs.length ≤ 4) := hid (can_len HR.out.can HR.out.nm4);clear hnx hnm;obtain ⟨tk, htk⟩ : ∃ tk : ByteArray, (⟨cs[j].1.toArray⟩ : ByteArray) = tk := ⟨_, rfl⟩
    have HTK := hid htk;rw [htk] at c0;obtain ⟨tq, htq⟩ : ∃ tq : ByteArray, TX cs[j].2 = tq := ⟨_, rfl⟩
    have HTQ := hid htq;have hcel : ∀ W, Below w.heap.size w W → W.cell? ⟨g, off + j * 2, none⟩ = some (.string tk) ∧ W.cell? ⟨g, off + j * 2 + 1, none⟩ = some (.string tq) := fun W hW => ⟨by rw [← htk]; exact (HC.out.far hW).nm j hl, by rw [← htq]; exact (HC.out.far hW).nu j hl⟩
    have HCEL := hid hcel;clear htk htq hcel;obtain ⟨cq, hcq⟩ : ∃ cq : Rat, cs[j].2 = cq := ⟨_, rfl⟩
    rw [hcq] at HNX HNM HTQ;obtain ⟨cn, hcn⟩ : ∃ cn, cs[j].1 = cn := ⟨_, rfl⟩
    rw [hcn] at HNX HNM HTK;clear hcq hcn
    by_cases he : cn = nm
    · have htt : (tk.toList == tn.toList) = true := by rw [← HTK.out, ← HTN.out, he]; exact beq_self_eq_true _
      have htt2 : (tk.toList != tn.toList) = false := by rw [bne, htt]; rfl
      have HRK := hid (HNX.out he);clear he
      go_wp2_with fail
      go_roundg (n - (j + 1))
      case rel => exact ⟨j + 1, v, rs, rfl, by omega, by go_num, HT2.out, _, HRK.out⟩
      case measure => omega
    · have htt : (tk.toList == tn.toList) = false := by
        rw [beq_eq_false_iff_ne];intro e;refine he ?_;rw [← HTK.out, ← HTN.out] at e
        simpa using e
      have htt2 : (tk.toList != tn.toList) = true := by rw [bne, htt]; rfl
      have HRK := hid (HNM.out he);clear he;obtain ⟨i0, hi0', hz0, hz1, hz2⟩ := info_parts infoCoef
      go_wp2_with fail
      refine add_region [[], [0], [], [2], [], [2, 3, 4], [2, 3, 4, 5], [2, 3, 4, 5, 6], [0, 1, 2, 3, 4, 5, 6, 7], [0, 1, 2, 3, 4, 5, 6, 7, 8], [0, 1, 2, 3, 4, 5, 6, 7, 8, 9]] (fun W => TS w W s (some ⟨g, off, none⟩) n cap tc tc S v v rs) (fun _ => True) ?_
      iterate 7
       apply a_con
       · intro x; go_simp; done
       · intro x W R hW hF hR;have p1 := heap_cell hW.tb.a 1;have s1 := heap_cell hW.hs 1;obtain ⟨q0, q1⟩ := HCEL.out W hW.tb.bel;clear hF;unfold addAt
         go_simp
         simp only [addUpon];exact hR _ (Below.refl _ _)
       simp only [Act.put, List.setIfInBounds_toArray, List.set_cons_zero, List.set_cons_succ]
      refine a_opq (fun u W => ∃ B, u = .slice (some ⟨B, 0, none⟩) 1 1 ∧ W.heap[B]? = some (.cells #[.string tk, .string tq] 79 (0, 0))) (fun _ _ _ h hb => let ⟨B, h1, h2⟩ := h; ⟨B, h1, (hb.block _ (lt_of_heap h2)).trans h2⟩) ?_ ?_ ?_
      · intro x; go_simp; done
      · intro x W R hW hF hR;clear hF;unfold addAt
        go_simp
        simp only [addUpon];exact hR _ _ ⟨W.heap.size, rfl, heap_alloc_new _ _⟩ ((Below.refl _ _).alloc (Nat.le_refl _) _)
      simp only [Act.put, List.setIfInBounds_toArray, List.set_cons_zero, List.set_cons_succ, List.length_cons, List.length_nil, Nat.zero_add, Nat.reduceAdd];refine a_wrt (fun x W => TS w W s (some ⟨g, off, none⟩) n cap tc tc S v (x 8) (rs ++ [(cn, cq)])) (fun _ _ _ h hb => h.far hb) (fun x x' w h hT => by have e := h 8 (.inl rfl); rw [e] at hT; exact hT) ?_ ?_ ?_
      · intro x; go_simp; done
      · intro x W R hW hF hD hR;obtain ⟨B, hx, hB⟩ := hF.1.2 rfl rfl rfl;clear hF;simp only [hx];have hrl := HRL.out;refine addAt_append (.tmp 28) (.tmp 34) 24 rfl (S + 1) 79 i0 _ 2 32 Tryz.underlying24 hi0' hz0 hz1 hz2 rfl (by decide) v rs.length (flat rs) rfl hW.row ⟨B, 0, none⟩ 1 1 [.string tk, .string tq] rfl rfl (World.news_of_block (cs := #[.string tk, .string tq]) hB) (by simp [Value.oneCell']) (by unfold maxLen; omega) (by omega) (lt_of_heap hW.hs) ?_;intro v' w' hrow hg;refine hR _ _ ?_ trivial hg.size;show TS w w' s (some ⟨g, off, none⟩) n cap tc tc S v (updX x 8 v' 8) (rs ++ [(cn, cq)]);rw [updX_self];refine hW.grow (x := (cn, cq)) hg ?_;rw [HTK.out, HTQ.out];exact hrow
      simp only [Act.put, List.setIfInBounds_toArray, List.set_cons_zero, List.set_cons_succ, List.length_cons, List.length_nil, Nat.zero_add, Nat.reduceAdd];apply a_late
      · intro x; go_simp; done
      · intro x W R hW hF hR;clear hF hW;unfold addAt
        go_simp
        simp only [addUpon];exact hR _ (Below.refl _ _)
      simp only [Act.put, List.setIfInBounds_toArray, List.set_cons_zero, List.set_cons_succ];refine a_wrt2 (fun x W => TS w W s (some ⟨g, off, none⟩) n cap tc tc S (x 8) (x 8) (rs ++ [(cn, cq)])) (fun _ _ _ h hb => h.far hb) (fun x x' w h hT => by have e := h 8 (.inr (List.contains_iff_mem.1 rfl)); rw [e] at hT; exact hT) ?_ ?_ ?_
      · intro x; go_simp; done
      · intro x W R hW hF hD hR;have hL := hF.2.1.2 rfl rfl rfl;simp only [AK.fact] at hL;obtain ⟨aq, gq, cv, hv, -, -⟩ := csl_of_row hL.row;simp only [hv];rw [hv] at hL;have e0 := heap_cell hL.hs 1;have fr := fun i => heap_fz hL.hs i
        clear hF;unfold addAt
        go_simp
        simp only [addUpon];refine hR _ _ ?_ trivial (by simp [World.setCell]);show TS w _ s (some ⟨g, off, none⟩) n cap tc tc S (updX x 10 _ 8) (updX x 10 _ 8) (rs ++ [(cn, cq)]);rw [updX_ne (i := 10) (j := 8) _ _ (by decide), hv];have := hL.set;rw [show (rs ++ [(cn, cq)]).length = rs.length + 1 by rw [List.length_append]; rfl] at this ⊢;exact this
      simp only [Act.put];refine a_nil (by kernel_rfl) (by kernel_rfl) (by kernel_rfl) (fun _ _ h hb => h.far hb) (fun _ _ _ _ => trivial) (fun _ _ => trivial) (HT2.out.far (Below.refl _ _).drew) ?_;intro x W hE hW hF hD;clear hD;have hls := hF.1.2 rfl;have HL2 := hid hls;clear hF hW hls
      go_wp2_with fail
      go_roundg (n - (j + 1))
      case rel => exact ⟨j + 1, _, _, rfl, by omega, by go_num, HL2.out, _, HRK.out⟩
      case measure => omega
  · obtain rfl : j = n := by omega
    have hlt' : ¬ ((j : Int) < (j : Int)) := by omega
    obtain ⟨av, gv, cv, hv, hrow, hty⟩ := csl_of_row2 HT2.out.row;have HLV : Hid (LV wr (.agg #[.int .i64 s, .slice av rs.length cv, .string tc]) s d c rs) := hid ⟨av, gv, 0, cv, by rw [HTC.out], hrow, hty, ⟨HR.out.can, HR.out.nm4, HR.out.ds⟩, HD.out⟩
    have hfn : ∀ n, cof rs n = if n = nm then 0 else cof cs n := fun n => by
     have := HR.out.eq n;rwa [List.take_of_length_le (Nat.le_of_eq HN.out)] at this
    have HFN := hid hfn;have hs := HT2.out.hs;rw [hv] at hs;have e0 := heap_cell hs 0;have e1 := heap_cell hs 1;have e2 := heap_cell hs 2;have r0 := heap_cell HT2.out.tb.r 0;have r1 := heap_cell HT2.out.tb.r 1;have r2 := heap_cell HT2.out.tb.r 2;have fr := fun i => heap_fz HT2.out.tb.r i
    clear hs hv hrow hty hfn
    go_wp2_with fail
    refine end_lin rfl rfl rfl HT2.out.tb.r ?_;exact ⟨rs, _, rfl, HLV.out.but HT2.out.tb.r (by decide) (fun g hg => set3_other _ _ _ hg), HFN.out, ((HT2.out.tb.bel.setCell (show w.heap.size ≤ w.heap.size + 1 by omega) _).setCell (show w.heap.size ≤ w.heap.size + 1 by omega) _).setCell (show w.heap.size ≤ w.heap.size + 1 by omega) _⟩
end
end Go.Proofs.YteoklapcifonaaaGreatDoor
/- Solve. -/
namespace Go.Proofs.YteoklapcifonaaaGreatDoor
open Go.RowKit Nmx
def zeroLV : Value := .agg #[.int .i64 0, .slice none 0 0, .string ⟨#[]⟩]
theorem cof_ds {d : Nat} {l : List (List UInt8 × Rat)} (h : Good d l) (n : List UInt8) : DS d (cof l n) := by
 by_cases hn : ∃ x ∈ l, x.1 = n
 · obtain ⟨x, hx, rfl⟩ := hn;obtain ⟨i, hi, rfl⟩ := List.getElem_of_mem hx;rw [cof_at h.can hi rfl];exact h.ds _ hx
 · rw [cof_none fun x hx e => hn ⟨x, hx, e⟩];exact DS.zero d
theorem lvOpen {w : World} {v : Value} {s : Int} {d : Nat} {c : Rat} {cs : List (List UInt8 × Rat)} (h : LV w v s d c cs) : ∃ ao n cap tx, v = .agg #[.int .i64 s, .slice ao n cap, .string tx] :=
 let ⟨ao, _, _, cap, hv, _⟩ := h
 ⟨ao, _, cap, _, hv⟩
/-- an expression and an error are handed back -/
theorem end_linE {fn : Func} {t u : Tmp} {a : Act} {w2 : World} {R : Nat} {s z : Int} {ao : Option Addr} {n c : Nat} {tx : ByteArray} {post : Ending → World → Prop} (hres : fn.results = #[.cell t 26, .tmp u]) (hd : a.defers = []) (ht : a.tmps.getD t undef = .pointer (some ⟨R, 0, none⟩)) (hu : a.tmps.getD u undef = .int .i64 z)
    (hR : w2.heap[R]? = some (.cells #[.int .i64 s, .slice ao n c, .string tx] 26 (0, 0))) (h : post (.returned (.tuple #[.agg #[.int .i64 s, .slice ao n c, .string tx], .int .i64 z])) w2) :
    bodyPost Tryz.prog fn post .ret a w2 := by
 have k0 := heap_cell hR 0;have k1 := heap_cell hR 1;have k2 := heap_cell hR 2
 simp at k0 k1 k2
 refine bodyPost_ret (v := .tuple #[.agg #[.int .i64 s, .slice ao n c, .string tx], .int .i64 z]) ?_ hd h;have ht' : a.tmps[t]?.getD undef = .pointer (some ⟨R, 0, none⟩) := by simpa using ht
 have hu' : a.tmps[u]?.getD undef = .int .i64 z := by simpa using hu
 simp [results, hres, go_sem, ht', hu', k0, k1, k2]
end Go.Proofs.YteoklapcifonaaaGreatDoor
/- The reference's SolveFor. -/
namespace Go.Proofs.YteoklapcifonaaaGreatDoor
open Go.RowKit Nmx
end Go.Proofs.YteoklapcifonaaaGreatDoor
/- Replace. -/
namespace Go.Proofs.YteoklapcifonaaaGreatDoor
open Go.RowKit Nmx
section
set_option maxRecDepth 100000
set_option maxHeartbeats 8000000
theorem replace_any {d : Nat} {w : World} {v1 v2 : Value} {s : Int} {p q : Rat} {cs bs : List (List UInt8 × Rat)} (nm : List UInt8) (h1 : LV w v1 s d p cs) (h2 : LV w v2 s d q bs) (hn : nameF nm = true) (hs : s = 2 ∨ s = 3) (hd : d ≤ 700) (hE : Env w) :
    Calls Tryz.prog 38 #[v1, .string ⟨nm.toArray⟩, v2] w (GetsLE s (3 * d + 1) (p + cof cs nm * q) (fun n => (if n = nm then 0 else cof cs n) + cof cs nm * cof bs n) w) := by
 have hv1 : ∀ W, Below w.heap.size w W → Calls Tryz.prog 29 #[v1] W fun e w' => e = .returned (.bool true) ∧ Below W.heap.size W w' := fun W hW => validL (h1.far hW) hs (by omega) (hE.far hW)
 have hv2 : ∀ W, Below w.heap.size w W → Calls Tryz.prog 29 #[v2] W fun e w' => e = .returned (.bool true) ∧ Below W.heap.size W w' := fun W hW => validL (h2.far hW) hs (by omega) (hE.far hW)
 have hsp : ∀ W, Below w.heap.size w W → Calls Tryz.prog 89 #[v1, .string ⟨nm.toArray⟩] W (GetsKL (cof cs nm) s d p (fun n => if n = nm then 0 else cof cs n) W) := fun W hW => split_any nm (h1.far hW) (by omega) (hE.far hW)
 have hnm : ∀ W, Calls Tryz.prog 69 #[.string ⟨nm.toArray⟩] W fun e w' => e = .returned (.bool true) ∧ w' = W := fun W => by
  have := isName_any ⟨nm.toArray⟩ W;rwa [toList_mk, hn] at this
 have hdk : DS d (cof cs nm) := cof_ds h1.good.1 nm
 have hcb : ∀ W u v rs, Below w.heap.size w W → LV W v s d p rs → (∀ n, cof rs n = if n = nm then 0 else cof cs n) → RV W u (cof cs nm) → Calls Tryz.prog 52 #[v, v2, u] W (GetsL s (3 * d + 1) (p + cof cs nm * q) (fun n => (if n = nm then 0 else cof cs n) + cof cs nm * cof bs n) W) := fun W u v rs hW hv hf hu => by
  refine (combineL hv (h2.far hW) hu hdk hd (hE.far hW)).mono fun e w' ⟨rs', v', g1, g2, g3, g4⟩ => ⟨rs', v', g1, g2, fun n => ?_, g4⟩
  have e1 := g3 n;have e2 := hf n
  dsimp only at e1 e2 ⊢
  rw [e1, e2]
 obtain ⟨a1, n1, c1, t1, rfl⟩ := lvOpen h1;obtain ⟨a2, n2, c2, t2, rfl⟩ := lvOpen h2;obtain ⟨m1, m2, m3, mb⟩ := newL3 w (.cells #[.int .i64 s, .slice a1 n1 c1, .string t1] 26) (.cells #[.int .i64 s, .slice a2 n2 c2, .string t2] 26) (.cells #[.int .i64 0, .slice none 0 0, .string ⟨#[]⟩] 26);have HK := hid (⟨m1, m2, m3, mb⟩ : AB w _ s s a1 n1 c1 t1 a2 n2 c2 t2);have HV1 := hid hv1;have HV2 := hid hv2;have HCB := hid hcb;have HSP := hid hsp;have HNM := hid hnm;obtain ⟨tn, htn⟩ : ∃ t : ByteArray, ⟨nm.toArray⟩ = t := ⟨_, rfl⟩
 rw [htn] at HSP HNM ⊢;clear m1 m2 m3 mb hv1 hv2 hcb hE hsp hnm hdk h1 h2 htn hn hs
 go_enter Tryz.func38, Tryz.ntmps38
 go_wp2_with fail
 generalize (((w.alloc (.cells #[.int .i64 s, .slice a1 n1 c1, .string t1] 26)).alloc (.cells #[.int .i64 s, .slice a2 n2 c2, .string t2] 26)).alloc (.cells #[.int .i64 0, .slice none 0 0, .string ⟨#[]⟩] 26)) = w3 at *;refine (HV1.out _ HK.out.bel).mono ?_;rintro e w4 ⟨rfl, hb⟩;replace HK := hid (HK.out.far hb);clear hb;have q0 := heap_cell HK.out.b 0;have q1 := heap_cell HK.out.b 1;have q2 := heap_cell HK.out.b 2
 go_wp2_with fail
 refine (HV2.out _ HK.out.bel).mono ?_;rintro e w5 ⟨rfl, hb⟩;replace HK := hid (HK.out.far hb);clear hb q0 q1 q2
 go_wp2_with fail
 refine (HNM.out w5).mono ?_;rintro e w6 ⟨rfl, rfl⟩;have p0 := heap_cell HK.out.a 0;have p1 := heap_cell HK.out.a 1;have p2 := heap_cell HK.out.a 2;have q0 := heap_cell HK.out.b 0
 go_wp2_with fail
 refine (HSP.out w6 HK.out.bel).mono ?_;rintro e w7 ⟨rs, u, v, rfl, hu, hv, hf, hb⟩;replace HK := hid (HK.out.far hb);have HU := hid hu;have HVV := hid hv;have HF := hid hf;obtain ⟨s1, b1, a3, n3, c3, s2, b2, a4, n4, c4, rfl, -⟩ := rv_form hu;obtain ⟨a5, n5, c5, t5, rfl⟩ := lvOpen hv;have hal1 : Below w7.heap.size w7 (w7.alloc (.cells #[.int .i64 s1, .bool b1, .slice a3 n3 c3, .int .i64 s2, .bool b2, .slice a4 n4 c4] 85)) := (Below.refl _ _).alloc (Nat.le_refl _) _;have hal := hal1.alloc hal1.size (.cells #[.int .i64 s, .slice a5 n5 c5, .string t5] 26);replace HK := hid (HK.out.far hal);replace HU := hid (HU.out.far hal);replace HVV := hid (HVV.out.far hal);have HX : Hid (((w7.alloc (.cells #[.int .i64 s1, .bool b1, .slice a3 n3 c3, .int .i64 s2, .bool b2, .slice a4 n4 c4] 85)).alloc (.cells #[.int .i64 s, .slice a5 n5 c5, .string t5] 26)).heap[w7.heap.size]? = some (.cells #[.int .i64 s1, .bool b1, .slice a3 n3 c3, .int .i64 s2, .bool b2, .slice a4 n4 c4] 85 (0, 0))) := hid (heap_al (heap_alloc_new _ _) _)
 have HY : Hid (((w7.alloc (.cells #[.int .i64 s1, .bool b1, .slice a3 n3 c3, .int .i64 s2, .bool b2, .slice a4 n4 c4] 85)).alloc (.cells #[.int .i64 s, .slice a5 n5 c5, .string t5] 26)).heap[w7.heap.size + 1]? = some (.cells #[.int .i64 s, .slice a5 n5 c5, .string t5] 26 (0, 0))) := hid (by
  have := heap_alloc_new (w7.alloc (.cells #[.int .i64 s1, .bool b1, .slice a3 n3 c3, .int .i64 s2, .bool b2, .slice a4 n4 c4] 85)) (.cells #[.int .i64 s, .slice a5 n5 c5, .string t5] 26)
  simpa using this)
 clear hu hv hf hb hal hal1 p0 p1 p2 q0
 go_upto_region 6 with fail
 generalize (w7.alloc (.cells #[.int .i64 s1, .bool b1, .slice a3 n3 c3, .int .i64 s2, .bool b2, .slice a4 n4 c4] 85)).alloc (.cells #[.int .i64 s, .slice a5 n5 c5, .string t5] 26) = w8 at *;generalize w7.heap.size = K at *;have z0 := heap_cell HX.out 0;have z1 := heap_cell HX.out 1;have z2 := heap_cell HX.out 2;have z3 := heap_cell HX.out 3;have z4 := heap_cell HX.out 4;have z5 := heap_cell HX.out 5;have y0 := heap_cell HY.out 0;have y1 := heap_cell HY.out 1;have y2 := heap_cell HY.out 2;have q0 := heap_cell HK.out.b 0;have q1 := heap_cell HK.out.b 1;have q2 := heap_cell HK.out.b 2
 go_wp2_with fail
 refine (HCB.out w8 _ _ rs HK.out.bel HVV.out HF.out HU.out).mono ?_;rintro e w9 ⟨rs2, v, rfl, hl, hf, hb⟩;replace HK := hid (HK.out.far hb);have HLV := hid hl;have HCF := hid hf;obtain ⟨ao, n, c, tx, rfl⟩ := lvOpen hl;clear z0 z1 z2 z3 z4 z5 y0 y1 y2 q0 q1 q2 hl hf hb;have x0 := heap_cell HK.out.r 0;have x1 := heap_cell HK.out.r 1;have x2 := heap_cell HK.out.r 2;have fr := fun i => heap_fz HK.out.r i
 go_wp2_with fail
 refine end_linE rfl rfl rfl rfl (set3_heap HK.out.r) ?_;exact ⟨rs2, _, rfl, HLV.out.but HK.out.r (by decide) (fun g hg => set3_other _ _ _ hg), HCF.out, ((HK.out.bel.setCell (show w.heap.size ≤ w.heap.size + 2 by omega) _).setCell (show w.heap.size ≤ w.heap.size + 2 by omega) _).setCell (show w.heap.size ≤ w.heap.size + 2 by omega) _⟩
end
end Go.Proofs.YteoklapcifonaaaGreatDoor
/- LinearSolve: plain facts and what both solvers hand back. -/
namespace Go.Proofs.YteoklapcifonaaaGreatDoor
open Go.RowKit Nmx
end Go.Proofs.YteoklapcifonaaaGreatDoor

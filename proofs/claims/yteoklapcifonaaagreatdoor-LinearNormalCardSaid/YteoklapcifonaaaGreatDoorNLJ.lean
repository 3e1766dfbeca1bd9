/- Linear expressions as values; scale, Add, Scale. -/
import Derived.Test.YteoklapcifonaaaGreatDoorNLE
import Derived.Test.YteoklapcifonaaaGreatDoorNLG
namespace Go.Proofs.YteoklapcifonaaaGreatDoor
open Go.RowKit Nmx
open Go.Lib (compareBytes)
/-- v is a linear expression -/
def LV [Nms] (w : World) (v : Value) (s : Int) (d : Nat) (c : Rat) (cs : List (List UInt8 × Rat)) : Prop :=
 ∃ ao g off cap, v = .agg #[.int .i64 s, .slice ao cs.length cap, .string (TX c)] ∧ CSl w ao g off cap cs ∧ (cs = [] ∨ ∃ cur fr, w.heap[g]? = some (.cells cur 79 fr)) ∧ Good d cs ∧ DS d c
theorem Good.mono [Nms] {d e : Nat} {cs : List (List UInt8 × Rat)} (h : Good d cs) (hd : d ≤ e) : Good e cs := ⟨h.can, h.nm, fun x hx => (h.ds x hx).mono hd⟩
theorem LV.mono [Nms] {w : World} {v : Value} {s : Int} {d e : Nat} {c : Rat} {cs : List (List UInt8 × Rat)} (h : LV w v s d c cs) (hd : d ≤ e) : LV w v s e c cs :=
 let ⟨ao, g, off, cap, h1, h2, h3, h4, h5⟩ := h
 ⟨ao, g, off, cap, h1, h2, h3, h4.mono hd, h5.mono hd⟩
theorem LV.far [Nms] {w w' : World} {v : Value} {s : Int} {d : Nat} {c : Rat} {cs : List (List UInt8 × Rat)} (h : LV w v s d c cs) (hb : Below w.heap.size w w') : LV w' v s d c cs :=
 let ⟨ao, g, off, cap, h1, h2, h3, h4, h5⟩ := h
 ⟨ao, g, off, cap, h1, h2.far hb, h3.imp id fun ⟨cur, fr, h⟩ => ⟨cur, fr, (hb.block _ (ab h)).trans h⟩, h4, h5⟩
/-- a store into a block of another type -/
theorem LV.but [Nms] {w w' : World} {v : Value} {s : Int} {d : Nat} {c : Rat} {cs : List (List UInt8 × Rat)} (h : LV w v s d c cs) {R : Nat} {cells : Array Value} {t : TypeId} {fr : Nat × Nat} (hR : w.heap[R]? = some (.cells cells t fr)) (ht : t ≠ 79) (ho : ∀ g, g ≠ R → w'.heap[g]? = w.heap[g]?) : LV w' v s d c cs := by
 obtain ⟨ao, g, off, cap, h1, h2, h3, h4, h5⟩ := h;refine ⟨ao, g, off, cap, h1, ?_, ?_, h4, h5⟩
 · refine ⟨h2.le, h2.most, h2.ad, fun i hi => ?_, fun i hi => ?_⟩
   all_goals
    rcases h3 with rfl | ⟨cur, fr', h3⟩
    · exact absurd hi (by simp)
    · have hne : g ≠ R := fun e => by rw [e, hR] at h3; cases h3; exact ht rfl
      rw [World.cell?_of_block (w := w) (w' := w') (a := ⟨g, _, none⟩) (ho g hne)]
      first | exact h2.nm i hi | exact h2.nu i hi
 · refine h3.imp id fun ⟨cur, fr', h3⟩ => ⟨cur, fr', ?_⟩
   rw [ho g fun e => by rw [e, hR] at h3; cases h3; exact ht rfl];exact h3
/-- v is a linear expression, in whatever block -/
def LVi [Nms] (w : World) (v : Value) (s : Int) (d : Nat) (c : Rat) (cs : List (List UInt8 × Rat)) : Prop :=
 ∃ ao g off cap, v = .agg #[.int .i64 s, .slice ao cs.length cap, .string (TX c)] ∧ CSl w ao g off cap cs ∧ True ∧ Good d cs ∧ DS d c
theorem LV.i [Nms] {w : World} {v : Value} {s : Int} {d : Nat} {c : Rat} {cs : List (List UInt8 × Rat)} (h : LV w v s d c cs) : LVi w v s d c cs :=
 let ⟨ao, g, off, cap, h1, h2, _, h4, h5⟩ := h
 ⟨ao, g, off, cap, h1, h2, trivial, h4, h5⟩
theorem LVi.mono [Nms] {w : World} {v : Value} {s : Int} {d e : Nat} {c : Rat} {cs : List (List UInt8 × Rat)} (h : LVi w v s d c cs) (hd : d ≤ e) : LVi w v s e c cs :=
 let ⟨ao, g, off, cap, h1, h2, h3, h4, h5⟩ := h
 ⟨ao, g, off, cap, h1, h2, h3, h4.mono hd, h5.mono hd⟩
theorem LVi.far [Nms] {w w' : World} {v : Value} {s : Int} {d : Nat} {c : Rat} {cs : List (List UInt8 × Rat)} (h : LVi w v s d c cs) (hb : Below w.heap.size w w') : LVi w' v s d c cs :=
 let ⟨ao, g, off, cap, h1, h2, h3, h4, h5⟩ := h
 ⟨ao, g, off, cap, h1, h2.far hb, h3, h4, h5⟩
theorem LVi.length [Nms] {w : World} {s s' : Int} {ao : Option Addr} {n cp : Nat} {tx : ByteArray} {d : Nat} {c : Rat} {cs : List (List UInt8 × Rat)} (h : LVi w (.agg #[.int .i64 s, .slice ao n cp, .string tx]) s' d c cs) : n = cs.length ∧ tx = TX c ∧ DS d c := by
 obtain ⟨ao', g, off, cap, he, -, -, -, hd⟩ := h;injection he with he;injection he with he;injection he with _ he;injection he with he1 he;injection he with he2 he;injection he1 with e1 e2 e3;injection he2 with e4;exact ⟨e2, e4, hd⟩
/-- a linear expression is handed back -/
def GetsL [Nms] (s : Int) (d : Nat) (c : Rat) (f : List UInt8 → Rat) (w : World) (e : Ending) (w' : World) : Prop := ∃ rs v, e = .returned v ∧ LV w' v s d c rs ∧ (∀ n, cof rs n = f n) ∧ Below w.heap.size w w'
theorem nilLV [Nms] (w : World) (s : Int) (d : Nat) : LV w (.agg #[.int .i64 s, .slice none 0 0, .string ⟨#[48]⟩]) s d 0 [] := by
 rw [← tx_int_zero];exact ⟨none, 0, 0, 0, rfl, ⟨Nat.le_refl _, by omega, fun h => by omega, fun i hi => absurd hi (by simp), fun i hi => absurd hi (by simp)⟩, .inl rfl, ⟨trivial, fun x hx => (List.not_mem_nil hx).elim, fun x hx => (List.not_mem_nil hx).elim⟩, DS.zero d⟩
section
set_option maxRecDepth 100000
set_option maxHeartbeats 4000000
theorem combineL [Nms] {d : Nat} {w : World} {v1 v2 u : Value} {s1 s2 : Int} {p1 p2 k : Rat} {cs1 cs2 : List (List UInt8 × Rat)} (h1 : LVi w v1 s1 d p1 cs1) (h2 : LVi w v2 s2 d p2 cs2) (hk : RV w u k) (dk : DS d k) (hd : d ≤ 700) (hE : Env w) :
    Calls Tryz.prog 52 #[v1, v2, u] w (GetsL s1 (3 * d + 1) (p1 + k * p2) (fun n => cof cs1 n + k * cof cs2 n) w) := by
 obtain ⟨a1, g1, o1, c1, rfl, hc1, -, hg1, d1⟩ := h1;obtain ⟨a2, g2, o2, c2, rfl, hc2, -, hg2, d2⟩ := h2;obtain ⟨_, _, _, _, _, _, _, _, _, _, rfl, -, -⟩ := aR hk;refine (combine_okU (U := Nms.U) w s1 s2 cs1 cs2 p1 p2 k a1 g1 o1 c1 a2 g2 o2 c2 _ _ _ _ _ _ hc1 hc2 hk dk d1 d2 hg1.u hg2.u (Nat.le_trans Nms.len (by decide)) hd hE).mono ?_;rintro e w' ⟨rs, ao, g, cap, rfl, hcs, hty, hg, hf, hb⟩;exact ⟨rs, _, rfl, ⟨ao, g, 0, cap, rfl, hcs, hty, hg.gd, (d1.add (dk.mul d2)).mono (by omega)⟩, hf, hb⟩
theorem scaleL [Nms] {d : Nat} {w : World} {v u : Value} {s : Int} {p k : Rat} {cs : List (List UInt8 × Rat)} (h : LVi w v s d p cs) (hk : RV w u k) (dk : DS d k) (hd : d ≤ 700) (hE : Env w) :
    Calls Tryz.prog 55 #[v, u] w (GetsL s (3 * d + 1) (k * p) (fun n => k * cof cs n) w) := by
 have hcb : ∀ W, Below w.heap.size w W → Calls Tryz.prog 52 #[.agg #[.int .i64 s, .slice none 0 0, .string ⟨#[48]⟩], v, u] W (GetsL s (3 * d + 1) (k * p) (fun n => k * cof cs n) W) := fun W hW => by
  have := combineL (nilLV W s d).i (h.far hW) (hk.far hW) dk hd (hE.far hW);rw [Rat.zero_add] at this;refine this.mono fun e w' ⟨rs, v, h1, h2, h3, h4⟩ => ⟨rs, v, h1, h2, fun n => ?_, h4⟩
  rw [h3 n];exact Rat.zero_add _
 obtain ⟨ao, g, off, cap, rfl, -⟩ := h;obtain ⟨s1, b1, a1, n1, c1, s2, b2, a2, n2, c2, rfl, -⟩ := aR hk
 have hn3 : ∀ o1 o2 o3, ((((w.alloc o1).alloc o2).alloc o3).heap[w.heap.size + 2]? = some o3 ∧ Below w.heap.size w (((w.alloc o1).alloc o2).alloc o3)) := fun o1 o2 o3 => by
  refine ⟨?_, ?_⟩
  · have := heap_alloc_new ((w.alloc o1).alloc o2) o3
    simpa using this
  · have b1 : Below w.heap.size w (w.alloc o1) := (Below.refl _ _).alloc (Nat.le_refl _) _;have b2 := b1.alloc b1.size o2;exact b2.alloc b2.size o3
 have HN3 := Lib.hid hn3;have HCB := Lib.hid hcb;clear hn3 hcb hk hE;obtain ⟨n, hn⟩ : ∃ n, cs.length = n := ⟨_, rfl⟩
 rw [hn] at HCB ⊢;clear hn;generalize TX p = tp at *
 go_enter Tryz.func55, Tryz.ntmps55
 go_wp2_with fail
 obtain ⟨hR, hB⟩ := HN3.out (.cells #[.int .i64 s, .slice ao n cap, .string tp] 26) (.cells #[.int .i64 s1, .bool b1, .slice a1 n1 c1, .int .i64 s2, .bool b2, .slice a2 n2 c2] 85) (.cells #[.int .i64 0, .slice none 0 0, .string ⟨#[]⟩] 26);have hc := HCB.out _ hB;have HR := Lib.hid hR;have HB := Lib.hid hB;clear hR hB;generalize (((w.alloc (.cells #[.int .i64 s, .slice ao n cap, .string tp] 26)).alloc (.cells #[.int .i64 s1, .bool b1, .slice a1 n1 c1, .int .i64 s2, .bool b2, .slice a2 n2 c2] 85)).alloc (.cells #[.int .i64 0, .slice none 0 0, .string ⟨#[]⟩] 26)) = w3 at *;refine hc.mono ?_;rintro e w4 ⟨rs, v, rfl, hl, hf, hb⟩;have HR4 := Lib.hid ((hb.block _ (ab HR.out)).trans HR.out);have HB4 := Lib.hid (HB.out.trans (hb.mono HB.out.size));have HL := Lib.hid hl;have HF := Lib.hid hf;obtain ⟨ao', g', off', cap', rfl, -⟩ := hl;clear hc hb hf;have k0 := aa HR4.out 0;have k1 := aa HR4.out 1;have k2 := aa HR4.out 2;have fr := fun i => ah HR4.out i
 go_wp2_with fail
 refine end_lin rfl rfl rfl HR4.out ?_;exact ⟨rs, _, rfl, HL.out.but HR4.out (by decide) (fun g hg => aj _ _ _ hg), HF.out, ((HB4.out.setCell (show w.heap.size ≤ w.heap.size + 2 by omega) _).setCell (show w.heap.size ≤ w.heap.size + 2 by omega) _).setCell (show w.heap.size ≤ w.heap.size + 2 by omega) _⟩
theorem validL {d : Nat} {w : World} {v : Value} {s : Int} {c : Rat} {cs : List (List UInt8 × Rat)} (h : LV w v s d c cs) (hs : s = 2 ∨ s = 3) (hd : d ≤ 3000) (hE : Env w) :
    Calls Tryz.prog 29 #[v] w fun e w' => e = .returned (.bool true) ∧ Below w.heap.size w w' := by
 obtain ⟨ao, g, off, cap, rfl, hc, -, hg, dc⟩ := h;exact linValid_ok w s cs c ao g off cap hc hs dc hg hd hE
theorem newL3 (w : World) (o1 o2 o3 : Obj) : (((w.alloc o1).alloc o2).alloc o3).heap[w.heap.size]? = some o1 ∧ (((w.alloc o1).alloc o2).alloc o3).heap[w.heap.size + 1]? = some o2 ∧ (((w.alloc o1).alloc o2).alloc o3).heap[w.heap.size + 2]? = some o3 ∧ Below w.heap.size w (((w.alloc o1).alloc o2).alloc o3) := by
 have h1 := heap_alloc_new w o1;have h2 := heap_alloc_new (w.alloc o1) o2;have h3 := heap_alloc_new ((w.alloc o1).alloc o2) o3;refine ⟨heap_al (heap_al h1 _) _, ?_, ?_, ?_⟩
 · have := heap_al h2 o3; simpa using this
 · simpa using h3
 · have b1 : Below w.heap.size w (w.alloc o1) := (Below.refl _ _).alloc (Nat.le_refl _) _;have b2 := b1.alloc b1.size o2;exact b2.alloc b2.size o3
/-- the boxes of Scale -/
structure SB (w W : World) (s1 : Int) (a1 : Option Addr) (n1 c1 : Nat) (t1 : ByteArray) : Prop where
 a : W.heap[w.heap.size]? = some (.cells #[.int .i64 s1, .slice a1 n1 c1, .string t1] 26 (0, 0))
 r : W.heap[w.heap.size + 1]? = some (.cells #[.int .i64 0, .slice none 0 0, .string ⟨#[]⟩] 26 (0, 0))
 bel : Below w.heap.size w W
theorem SB.far {w W W' : World} {s1 : Int} {a1 : Option Addr} {n1 c1 : Nat} {t1 : ByteArray} (h : SB w W s1 a1 n1 c1 t1) (hb : Below W.heap.size W W') : SB w W' s1 a1 n1 c1 t1 :=
 ⟨(hb.block _ (ab h.a)).trans h.a, (hb.block _ (ab h.r)).trans h.r, h.bel.trans (hb.mono h.bel.size)⟩
theorem newL2 (w : World) (o1 o2 : Obj) : ((w.alloc o1).alloc o2).heap[w.heap.size]? = some o1 ∧ ((w.alloc o1).alloc o2).heap[w.heap.size + 1]? = some o2 ∧ Below w.heap.size w ((w.alloc o1).alloc o2) := by
 have h1 := heap_alloc_new w o1;have h2 := heap_alloc_new (w.alloc o1) o2;refine ⟨heap_al h1 _, by simpa using h2, ?_⟩;have b1 : Below w.heap.size w (w.alloc o1) := (Below.refl _ _).alloc (Nat.le_refl _) _;exact b1.alloc b1.size o2
end
end Go.Proofs.YteoklapcifonaaaGreatDoor
/- Linear expressions are drawn. -/
namespace Go.Proofs.YteoklapcifonaaaGreatDoor
open Go.RowKit Nmx
/-- what (*Choices).Linear hands back -/
def LinPost (C : Nat) (ao : Option Addr) (n cap : Nat) (w : World) (s : Int) (e : Ending) (w' : World) : Prop := ∃ cs q v, e = .returned v ∧ LV w' v s 26 q cs ∧ Ch C ao n cap w' ∧ w.grownBy w' (some C)
theorem growL {w w1 w2 : World} {r r2 : Option Nat} (h : w.grownBy w1 r) (h2 : w1.grownBy w2 r2) (hr : ∀ k, r2 = some k → w.heap.size ≤ k ∨ r = some k) : w.grownBy w2 r :=
 ⟨h2.os.trans h.os, h2.tape.trans h.tape, h2.output.trans h.output, Nat.le_trans h.size h2.size, fun k hk hk2 => (h2.block k (Nat.lt_of_lt_of_le hk h.size) (fun e => by rcases hr k e.symm with h | h; omega; exact hk2 h.symm)).trans (h.block k hk hk2)⟩
/-- between two rounds -/
structure GS (w wr : World) (C : Nat) (ao : Option Addr) (n cap : Nat) (s : Int) (t0 : ByteArray) (S M : Nat) (v : Value) (r : List (List UInt8 × Rat)) : Prop where
 ch : Ch C ao n cap wr
 r0 : wr.heap[w.heap.size]? = some (.cells #[.int .i64 0, .slice none 0 0, .string ⟨#[]⟩] 26 (0, 0))
 hs : wr.heap[S]? = some (.cells #[.int .i64 s, v, .string t0] 26 (0, 0))
 hm : wr.heap[M]? = some (.cells #[.string ⟨#[117]⟩, .string ⟨#[118]⟩, .string ⟨#[120]⟩, .string ⟨#[121]⟩] 9 (0, 0))
 row : wr.ownsRow (S + 1) 79 2 v r.length (flat r)
 l1 : C < w.heap.size
 l2 : w.heap.size < S
 l3 : S < M
 gr : w.grownBy wr (some C)
theorem GS.call {w wr : World} {C : Nat} {ao : Option Addr} {n cap : Nat} {s : Int} {t0 : ByteArray} {S M : Nat} {v : Value} {r : List (List UInt8 × Rat)} {w' : World} (h : GS w wr C ao n cap s t0 S M v r) (hc : Ch C ao n cap w') (hg : wr.grownBy w' (some C)) : GS w w' C ao n cap s t0 S M v r := by
 have h1 := h.l1;have h2 := h.l2;have h3 := h.l3;have hb : ∀ g, g ≠ C → g < wr.heap.size → w'.heap[g]? = wr.heap[g]? := fun g hne hl => hg.block g hl (fun e => hne (Option.some.inj e))
 exact ⟨hc, (hb _ (by omega) (ab h.r0)).trans h.r0, (hb _ (by omega) (ab h.hs)).trans h.hs, (hb _ (by omega) (ab h.hm)).trans h.hm, row_same h.row fun g e => hb g (by have := (h.row.lt g e).1; omega) (h.row.lt g e).2, h1, h2, h3, grown_trans h.gr hg⟩
theorem GS.far {w wr : World} {C : Nat} {ao : Option Addr} {n cap : Nat} {s : Int} {t0 : ByteArray} {S M : Nat} {v : Value} {r : List (List UInt8 × Rat)} {w' : World} (h : GS w wr C ao n cap s t0 S M v r) (hb : Below wr.heap.size wr w') : GS w w' C ao n cap s t0 S M v r := h.call (h.ch.call hb) (grown_more (grown_below hb))
/-- a coefficient is appended, not yet stored back -/
structure GA (w wr : World) (C : Nat) (ao : Option Addr) (n cap : Nat) (s : Int) (t0 : ByteArray) (S M : Nat) (v v' : Value) (r : List (List UInt8 × Rat)) : Prop where
 ch : Ch C ao n cap wr
 r0 : wr.heap[w.heap.size]? = some (.cells #[.int .i64 0, .slice none 0 0, .string ⟨#[]⟩] 26 (0, 0))
 hs : wr.heap[S]? = some (.cells #[.int .i64 s, v, .string t0] 26 (0, 0))
 hm : wr.heap[M]? = some (.cells #[.string ⟨#[117]⟩, .string ⟨#[118]⟩, .string ⟨#[120]⟩, .string ⟨#[121]⟩] 9 (0, 0))
 row : wr.ownsRow (S + 1) 79 2 v' r.length (flat r)
 l1 : C < w.heap.size
 l2 : w.heap.size < S
 l3 : S < M
 gr : w.grownBy wr (some C)
theorem GS.grow {w wr : World} {C : Nat} {ao : Option Addr} {n cap : Nat} {s : Int} {t0 : ByteArray} {S M : Nat} {v : Value} {r : List (List UInt8 × Rat)} {w1 : World} {v' : Value} {x : List UInt8 × Rat} (h : GS w wr C ao n cap s t0 S M v r) (hg : wr.grownBy w1 v.ownBlock) (hr : w1.ownsRow (S + 1) 79 2 v' (r.length + 1) (flat r ++ [.string ⟨x.1.toArray⟩, .string (TX x.2)])) : GA w w1 C ao n cap s t0 S M v v' (r ++ [x]) := by
 have h1 := h.l1;have h2 := h.l2;have h3 := h.l3;have hb : ∀ g, g ≤ S → g < wr.heap.size → w1.heap[g]? = wr.heap[g]? := fun g hne hl => hg.block g hl fun e => by have := (h.row.lt g e.symm).1; omega
 refine ⟨h.ch.grown hg (fun k e => by have := (h.row.lt k e).1; omega), (hb _ (by omega) (ab h.r0)).trans h.r0, (hb _ (by omega) (ab h.hs)).trans h.hs, (hg.block M (ab h.hm) fun e => ?_).trans h.hm, ?_, h1, h2, h3, growL h.gr hg fun k e => ?_⟩
 · rcases h.row.2 with ⟨rfl, _⟩ | ⟨g', cap', cur, rfl, _, hgg, _⟩
   · cases e
   · injection e with e;subst e;rw [h.hm] at hgg;cases hgg
 · rw [List.length_append, flat_append];exact hr
 · have := (h.row.lt k e).1; omega
theorem GA.far {w wr : World} {C : Nat} {ao : Option Addr} {n cap : Nat} {s : Int} {t0 : ByteArray} {S M : Nat} {v : Value} {r : List (List UInt8 × Rat)} {w' : World} {v' : Value} (h : GA w wr C ao n cap s t0 S M v v' r) (hb : Below wr.heap.size wr w') : GA w w' C ao n cap s t0 S M v v' r := by
 have h1 := h.l1;have h2 := h.l2;have h3 := h.l3;exact ⟨h.ch.call hb, (hb.block _ (ab h.r0)).trans h.r0, (hb.block _ (ab h.hs)).trans h.hs, (hb.block _ (ab h.hm)).trans h.hm, row_same h.row fun g e => hb.block g (h.row.lt g e).2, h1, h2, h3, bO h.gr hb⟩
theorem GA.set {w wr : World} {C : Nat} {ao : Option Addr} {n cap : Nat} {s : Int} {t0 : ByteArray} {S M : Nat} {v : Value} {r : List (List UInt8 × Rat)} {v' : Value} (h : GA w wr C ao n cap s t0 S M v v' r) : GS w (wr.setCell ⟨S, 1, none⟩ v') C ao n cap s t0 S M v' r := by
 have h1 := h.l1;have h2 := h.l2;have h3 := h.l3;have hset : ∀ g, g ≠ S → (wr.setCell ⟨S, 1, none⟩ v').heap[g]? = wr.heap[g]? := fun g hgS => Below.heap_setCell _ _ _ _ hgS
 have hgs : wr.grownBy (wr.setCell ⟨S, 1, none⟩ v') (some S) := bf (grown_refl wr (some S)) 1 v';refine ⟨h.ch.grown hgs (fun k e => by cases e; omega), (hset _ (by omega)).trans h.r0, ?_, (hset _ (by omega)).trans h.hm, ownsRow_setCell_below h.row (a := ⟨S, 1, none⟩) (show S < S + 1 by omega) v', h1, h2, h3, growL h.gr hgs fun k e => by cases e; omega⟩;have := heap_setCell_same wr S 1 _ _ v' h.hs;exact this
theorem nm4_at : ∀ i : Nat, i < 4 → ∃ nm : List UInt8, (#[.string ⟨#[117]⟩, .string ⟨#[118]⟩, .string ⟨#[120]⟩, .string ⟨#[121]⟩] : Array Value)[i]? = some (.string ⟨nm.toArray⟩) ∧ nm ∈ nm4 ∧ idx4 nm = i
 | 0, _ => ⟨[117], rfl, by decide, rfl⟩
 | 1, _ => ⟨[118], rfl, by decide, rfl⟩
 | 2, _ => ⟨[120], rfl, by decide, rfl⟩
 | 3, _ => ⟨[121], rfl, by decide, rfl⟩
 | n + 4, h => absurd h (by omega)
theorem idx4_gt : ∀ a ∈ nm4, ∀ b ∈ nm4, idx4 a < idx4 b → ltB a b := by decide
theorem good_put {d i : Nat} {r : List (List UInt8 × Rat)} {nm : List UInt8} {q : Rat} (h : Good d r) (hi : ∀ x ∈ r, idx4 x.1 < i) (hn : nm ∈ nm4) (he : idx4 nm = i) (hq : q.num ≠ 0) (hd : DS d q) : Good d (r ++ [(nm, q)]) := by
 refine ⟨can_append h.can ⟨fun e => hq (by rw [e]; rfl), fun x hx => (List.not_mem_nil hx).elim, trivial⟩ fun x hx y hy => ?_, fun x hx => ?_, fun x hx => ?_⟩
 · rw [List.mem_singleton.1 hy];exact idx4_gt _ (h.nm x hx) _ hn (by rw [he]; exact hi x hx)
 · rcases List.mem_append.1 hx with h1 | h1
   · exact h.nm x h1
   · rw [List.mem_singleton.1 h1]; exact hn
 · rcases List.mem_append.1 hx with h1 | h1
   · exact h.ds x h1
   · rw [List.mem_singleton.1 h1]; exact hd
theorem GS.end {w wr : World} {C : Nat} {ao : Option Addr} {n cap : Nat} {s : Int} {t0 : ByteArray} {S M : Nat} {v : Value} {r : List (List UInt8 × Rat)} {d : Nat} {q : Rat} (h : GS w wr C ao n cap s t0 S M v r) (hg : Good d r) (hd : DS d q) (ht : t0 = TX q) : ∃ ao' cap', v = .slice ao' r.length cap' ∧ LV wr (.agg #[.int .i64 s, .slice ao' r.length cap', .string t0]) s d q r := by
 obtain ⟨ao', g, cap', rfl, hc, hty⟩ := csl_of_row2 h.row;exact ⟨ao', cap', rfl, ao', g, 0, cap', by rw [ht], hc, hty, hg, hd⟩
section
set_option maxRecDepth 100000
set_option maxHeartbeats 8000000
theorem linear_any (C : Nat) (ao : Option Addr) (n cap : Nat) (s : Int) (w : World) (h : Ch C ao n cap w) : Calls Tryz.prog 15 #[.pointer (some ⟨C, 0, none⟩), .int .i64 s] w (LinPost C ao n cap w s) := by
 have HC0 := Lib.hid h;have HL := Lib.hid h.lt;have hal : Below w.heap.size w (w.alloc (.cells #[.int .i64 0, .slice none 0 0, .string ⟨#[]⟩] 26)) := (Below.refl _ _).alloc (Nat.le_refl _) _;have hnum := number_any C ao n cap _ (h.call hal);have HR0 := Lib.hid (heap_alloc_new w (.cells #[.int .i64 0, .slice none 0 0, .string ⟨#[]⟩] 26));have HG0 := Lib.hid (grown_more (r := some C) (grown_below hal));clear h hal
 go_enter Tryz.func15, Tryz.ntmps15
 go_wp2_with fail
 refine hnum.mono ?_;rintro e w1 ⟨q0, dq0, rfl, hch, hg⟩;have HQ := Lib.hid dq0;obtain ⟨t0, ht0⟩ : ∃ t0, TX q0 = t0 := ⟨_, rfl⟩
 rw [ht0];have HT := Lib.hid ht0;have hw1 := hg.size;have h1 := HL.out;have hR1 := (hg.block w.heap.size (ab HR0.out) (fun e => by have := Option.some.inj e; omega)).trans HR0.out;have hlt1 := ab hR1;have hal1 : Below w1.heap.size w1 (w1.alloc (.cells #[.int .i64 s, .slice none 0 0, .string t0] 26)) := (Below.refl _ _).alloc (Nat.le_refl _) _;have hal2 : Below (w1.alloc (.cells #[.int .i64 s, .slice none 0 0, .string t0] 26)).heap.size (w1.alloc (.cells #[.int .i64 s, .slice none 0 0, .string t0] 26)) ((w1.alloc (.cells #[.int .i64 s, .slice none 0 0, .string t0] 26)).alloc (.cells #[.string ⟨#[117]⟩, .string ⟨#[118]⟩, .string ⟨#[120]⟩, .string ⟨#[121]⟩] 9)) := (Below.refl _ _).alloc (Nat.le_refl _) _;have HS := Lib.hid (⟨(hch.call hal1).call hal2, heap_al (heap_al hR1 _) _, heap_al (heap_alloc_new w1 _) _, by have := heap_alloc_new (w1.alloc (.cells #[.int .i64 s, .slice none 0 0, .string t0] 26)) (.cells #[.string ⟨#[117]⟩, .string ⟨#[118]⟩, .string ⟨#[120]⟩, .string ⟨#[121]⟩] 9); simpa using this, World.ownsRow_nil _ _ _ _, h1, hlt1, by omega, bO (bO (grown_trans HG0.out hg) hal1) hal2⟩ : GS w _ C ao n cap s t0 w1.heap.size (w1.heap.size + 1) (.slice none 0 0) []);clear hch hg hnum dq0 ht0 hw1 h1 hR1 hlt1 hal1 hal2
 go_wp2_with fail
 generalize (w1.alloc (.cells #[.int .i64 s, .slice none 0 0, .string t0] 26)).alloc (.cells #[.string ⟨#[117]⟩, .string ⟨#[118]⟩, .string ⟨#[120]⟩, .string ⟨#[121]⟩] 9) = w2 at *;generalize w1.heap.size + 1 = M at *;generalize w1.heap.size = S at *
 go_loopg [7] 4 (fun gh v7 wr => ∃ (i : Nat) (v : Value) (r : List (List UInt8 × Rat)), gh = 4 - i ∧ i ≤ 4 ∧ v7 = .int .i64 i ∧ GS w wr C ao n cap s t0 S M v r ∧ Good 26 r ∧ ∀ x ∈ r, idx4 x.1 < i)
 case atStart => exact ⟨0, .slice none 0 0, [], rfl, by omega, rfl, HS.out, ⟨trivial, fun x hx => (List.not_mem_nil hx).elim, fun x hx => (List.not_mem_nil hx).elim⟩, fun x hx => (List.not_mem_nil hx).elim⟩
 case round =>
  obtain ⟨i, v, r, rfl, hi, rfl, hgs, hgood, hidx⟩ := hrel;have HG := Lib.hid hgs;have HGD := Lib.hid hgood;have HI := Lib.hid hidx;clear hgs hgood hidx HS HR0 HG0;have hi0 : (0 : Int) ≤ (i : Int) := by omega
  by_cases hlt : i < 4
  · have hlt' : (i : Int) < 4 := by omega
    have hnu := number_any C ao n cap _ HG.out.ch
    go_wp2_with fail
    refine hnu.mono ?_;rintro e w3 ⟨q, dq, rfl, hch, hg⟩;have HG3 := Lib.hid (HG.out.call hch hg);have HDQ := Lib.hid dq;have htz := bg q;obtain ⟨tq, htq⟩ : ∃ tq, TX q = tq := ⟨_, rfl⟩
    rw [htq] at htz ⊢;have HTQ := Lib.hid htq;clear hch hg dq hnu htq
    go_wp2_with fail
    refine (next_any _ _ _ _ _ 2 (by omega) (by omega) HG3.out.ch).mono ?_;rintro e w4 ⟨r2, hr2, rfl, hch, hg, -⟩;have HG4 := Lib.hid (HG3.out.call hch hg);clear hch hg
    by_cases h2 : (r2 : Int) = 1
    · have h2' : decide ((r2 : Int) = 1) = true := decide_eq_true h2;have h2'' : ((r2 : Int) == 1) = true := by rw [beq_iff_eq]; exact h2
      by_cases hq : q.num = 0
      · rw [decide_eq_true hq] at htz;clear h2
        go_wp2_with fail
        go_roundg (4 - (i + 1))
        case rel => exact ⟨i + 1, v, r, rfl, by omega, by go_num, HG4.out, HGD.out, fun x hx => Nat.lt_succ_of_lt (HI.out x hx)⟩
        case measure => omega
      · rw [decide_eq_false hq] at htz;obtain ⟨nm, hnm, hmem, hid⟩ := nm4_at i hlt;have HNM := Lib.hid hnm;obtain ⟨tn, htn⟩ : ∃ tn : ByteArray, ⟨nm.toArray⟩ = tn := ⟨_, rfl⟩
        have HTN := Lib.hid htn;have HHD := Lib.hid hid;clear h2 hnm htn hid;obtain ⟨i0, hi0', hz0, hz1, hz2⟩ := info_parts infoCoef;have hrl : r.length ≤ 4 := can_len HGD.out.can HGD.out.nm
        go_wp2_with fail
        refine aF [[], [0], [], [], [2, 3], [2, 3, 4], [], [2, 3, 4, 5, 6], [2, 3, 4, 5, 6, 7], [0, 1, 2, 3, 4, 5, 6, 7, 8], [0, 1, 2, 3, 4, 5, 6, 7, 8, 9], [0, 1, 2, 3, 4, 5, 6, 7, 8, 9, 10]] (fun W => GS w W C ao n cap s t0 S M v r) (fun _ => True) ?_
        iterate 8
         apply aM
         · intro x; go_simp; done
         · intro x W R hW hF hR;have e1 := aa hW.hs 1;have e2 := (aa hW.hm i).trans HNM.out;rw [HTN.out] at e2;clear hF;unfold ag
           go_simp
           simp only [ac];exact hR _ (Below.refl _ _)
         simp only [Act.put, List.setIfInBounds_toArray, List.set_cons_zero, List.set_cons_succ]
        refine ba (fun u W => ∃ B, u = .slice (some ⟨B, 0, none⟩) 1 1 ∧ W.heap[B]? = some (.cells #[.string tn, .string tq] 79 (0, 0))) (fun _ _ _ h hb => let ⟨B, h1, h2⟩ := h; ⟨B, h1, (hb.block _ (ab h2)).trans h2⟩) ?_ ?_ ?_
        · intro x; go_simp; done
        · intro x W R hW hF hR;clear hF;unfold ag
          go_simp
          simp only [ac];exact hR _ _ ⟨W.heap.size, rfl, heap_alloc_new _ _⟩ ((Below.refl _ _).alloc (Nat.le_refl _) _)
        simp only [Act.put, List.setIfInBounds_toArray, List.set_cons_zero, List.set_cons_succ, List.length_cons, List.length_nil, Nat.zero_add, Nat.reduceAdd];refine a_wrt (fun x W => GA w W C ao n cap s t0 S M v (x 9) (r ++ [(nm, q)])) (fun _ _ _ h hb => h.far hb) (fun x x' w h hT => by have e := h 9 (.inl rfl); rw [e] at hT; exact hT) ?_ ?_ ?_
        · intro x; go_simp; done
        · intro x W R hW hF hD hR
          skip
          obtain ⟨B, hx, hB⟩ := hF.1.2 rfl rfl rfl;clear hF;simp only [hx];refine addAt_append (.tmp 30) (.tmp 37) 24 rfl (S + 1) 79 i0 _ 2 32 Tryz.underlying24 hi0' hz0 hz1 hz2 rfl (by decide) v r.length (flat r) rfl hW.row ⟨B, 0, none⟩ 1 1 [.string tn, .string tq] rfl rfl (World.news_of_block (cs := #[.string tn, .string tq]) hB) (by simp [Value.oneCell']) (by unfold maxLen; omega) (by omega) (ab hW.hs) ?_;intro v' w' hrow hg;refine hR _ _ ?_ trivial hg.size;show GA w w' C ao n cap s t0 S M v (updX x 9 v' 9) (r ++ [(nm, q)]);rw [bk];refine hW.grow (x := (nm, q)) hg ?_;rw [HTN.out, HTQ.out];exact hrow
        simp only [Act.put, List.setIfInBounds_toArray, List.set_cons_zero, List.set_cons_succ, List.length_cons, List.length_nil, Nat.zero_add, Nat.reduceAdd];apply a_late
        · intro x; go_simp; done
        · intro x W R hW hF hR;clear hF hW;unfold ag
          go_simp
          simp only [ac];exact hR _ (Below.refl _ _)
        simp only [Act.put, List.setIfInBounds_toArray, List.set_cons_zero, List.set_cons_succ];refine a_wrt2 (fun x W => GS w W C ao n cap s t0 S M (x 9) (r ++ [(nm, q)])) (fun _ _ _ h hb => h.far hb) (fun x x' w h hT => by have e := h 9 (.inr (List.contains_iff_mem.1 rfl)); rw [e] at hT; exact hT) ?_ ?_ ?_
        · intro x; go_simp; done
        · intro x W R hW hF hD hR;have hL := hF.2.1.2 rfl rfl rfl;simp only [AK.fact] at hL;obtain ⟨ao', g', cap', hv, -, -⟩ := csl_of_row hL.row;simp only [hv];rw [hv] at hL;have e0 := aa hL.hs 0;have e1 := aa hL.hs 1;have e2 := aa hL.hs 2;have fr := fun i => ah hL.hs i
          clear hF;unfold ag
          go_simp
          simp only [ac];refine hR _ _ ?_ trivial (by simp [World.setCell]);show GS w _ C ao n cap s t0 S M (updX x 11 _ 9) (r ++ [(nm, q)]);rw [aJ (i := 11) (j := 9) _ _ (by decide), hv];have := hL.set;rw [show (r ++ [(nm, q)]).length = r.length + 1 by rw [List.length_append]; rfl] at this ⊢;exact this
        simp only [Act.put];refine a_nil (by kernel_rfl) (by kernel_rfl) (by kernel_rfl) (fun _ _ h hb => h.far hb) (fun _ _ _ _ => trivial) (fun _ _ => trivial) (HG4.out.far (Below.refl _ _).drew) ?_;intro x W hE hW hF hD;clear hD;have hls : GS w W C ao n cap s t0 S M (x 9) (r ++ [(nm, q)]) := hF.1.2 rfl;have HL2 := Lib.hid hls;clear hF hW hls
        go_wp2_with fail
        go_roundg (4 - (i + 1))
        case rel =>
         refine ⟨i + 1, _, r ++ [(nm, q)], rfl, by omega, by go_num, HL2.out, good_put HGD.out HI.out hmem HHD.out hq HDQ.out, fun x hx => ?_⟩;rcases List.mem_append.1 hx with h1 | h1
         · exact Nat.lt_succ_of_lt (HI.out x h1)
         · rw [List.mem_singleton.1 h1, HHD.out]; exact Nat.lt_succ_self i
        case measure => omega
    · have h2' : decide ((r2 : Int) = 1) = false := decide_eq_false h2;have h2'' : ((r2 : Int) == 1) = false := by rw [beq_eq_false_iff_ne]; exact h2
      go_wp2_with fail
      go_roundg (4 - (i + 1))
      case rel => exact ⟨i + 1, v, r, rfl, by omega, by go_num, HG4.out, HGD.out, fun x hx => Nat.lt_succ_of_lt (HI.out x hx)⟩
      case measure => omega
  · have hlt' : ¬ ((i : Int) < 4) := by omega
    obtain ⟨ao', cap', hv, hlv⟩ := HG.out.end HGD.out HQ.out HT.out.symm;have HLV := Lib.hid hlv;have hs := HG.out.hs;rw [hv] at hs;have s0 := aa hs 0;have s1 := aa hs 1;have s2 := aa hs 2;have r0 := aa HG.out.r0 0;have r1 := aa HG.out.r0 1;have r2 := aa HG.out.r0 2;have fr := fun i => ah HG.out.r0 i
    clear hs hv hlv
    go_wp2_with fail
    refine end_lin rfl rfl rfl HG.out.r0 ?_;have h1 := HG.out.l1;have ho : ∀ g', g' ≠ w.heap.size → (((wr.setCell ⟨w.heap.size, 0, none⟩ (.int .i64 s)).setCell ⟨w.heap.size, 1, none⟩ (.slice ao' r.length cap')).setCell ⟨w.heap.size, 2, none⟩ (.string t0)).heap[g']? = wr.heap[g']? := fun g' hg => aj _ _ _ hg
    have hgs : wr.grownBy (((wr.setCell ⟨w.heap.size, 0, none⟩ (.int .i64 s)).setCell ⟨w.heap.size, 1, none⟩ (.slice ao' r.length cap')).setCell ⟨w.heap.size, 2, none⟩ (.string t0)) (some w.heap.size) := bf (bf (bf (grown_refl wr (some w.heap.size)) 0 _) 1 _) 2 _;exact ⟨r, q0, _, rfl, HLV.out.but HG.out.r0 (by decide) ho, HG.out.ch.grown hgs (fun k e => by cases e; exact h1), growL HG.out.gr hgs fun k e => by cases e; exact .inl (Nat.le_refl _)⟩
end
end Go.Proofs.YteoklapcifonaaaGreatDoor

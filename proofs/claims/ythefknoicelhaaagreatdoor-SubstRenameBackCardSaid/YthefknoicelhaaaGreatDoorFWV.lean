/- Terms put together out of terms (plain part). -/
import Derived.Test.YthefknoicelhaaaGreatDoorFWC
import Derived.Test.YthefknoicelhaaaGreatDoorFRG
import Derived.Test.YthefknoicelhaaaGreatDoorFWH
import Derived.Test.YthefknoicelhaaaGreatDoorFVL
import Derived.Test.YthefknoicelhaaaGreatDoorFNV
import Derived.Test.YthefknoicelhaaaGreatDoorFWD
import Derived.Test.YthefknoicelhaaaGreatDoorFLS
import Derived.Test.YthefknoicelhaaaGreatDoorFUS
import Derived.Test.YthefknoicelhaaaGreatDoorFUE
namespace Go.Proofs.YthefknoicelhaaaGreatDoor.Se
open Go.RowKit Nmx

theorem WE.mono {p d : Nat} {ts : List Nd} {ss : List Int} {E : List Nat} {S : List Int} (h : WE p d ts ss E S) : ∀ d', d ≤ d' → WE p d' ts ss E S := by
  induction h with
  | nil => intro d' _; exact .nil _ _
  | @cons p d x ks rest ss rs s Ek Er Sk Sr hk hn hr ihk ihr =>
    intro d' hd
    obtain ⟨e, rfl⟩ : ∃ e, d' = e + 1 := ⟨d' - 1, by omega⟩
    exact .cons (ihk e (by omega)) hn (ihr (e + 1) hd)
theorem WE.shift {p d : Nat} {ts : List Nd} {ss : List Int} {E : List Nat} {S : List Int} (h : WE p d ts ss E S) : ∀ p', ∃ E', WE p' d ts ss E' S := by
  induction h with
  | nil => intro p'; exact ⟨_, .nil _ _⟩
  | @cons p d x ks rest ss rs s Ek Er Sk Sr hk hn hr ihk ihr =>
    intro p'
    obtain ⟨F, hF⟩ := ihk (p' + 1)
    obtain ⟨G, hG⟩ := ihr (p' + 1 + ks.length)
    exact ⟨_, .cons hF hn hG⟩
theorem WE.app {p d : Nat} {ts : List Nd} {ss : List Int} {E : List Nat} {S : List Int} (h : WE p d ts ss E S) : ∀ us rs F U, WE (p + ts.length) d us rs F U → ∃ E' S', WE p d (ts ++ us) (ss ++ rs) E' S' := by
  induction h with
  | nil => intro us rs F U h; exact ⟨_, _, by simpa using h⟩
  | @cons p d x ks rest ss rs s Ek Er Sk Sr hk hn hr ihk ihr =>
    intro us qs F U hu
    obtain ⟨E', S', h'⟩ := ihr us qs F U (by
      rw [show p + 1 + ks.length + rest.length = p + (x :: (ks ++ rest)).length by simp only [List.length_cons, List.length_append]; omega]; exact hu)
    have h2 := WE.cons hk hn h'
    rw [← List.append_assoc] at h2
    exact ⟨_, _, h2⟩
theorem WT.mono {d d' : Nat} {ts : List Nd} {s : Int} (h : WT d ts s) (hd : d ≤ d') : WT d' ts s := let ⟨E, S, h⟩ := h; ⟨E, S, h.mono d' hd⟩
/-- a term that was drawn: its sort, its names, its size -/
structure Tm (V : List (ByteArray × Int)) (D Z : Nat) (ts : List Nd) (s : Int) : Prop where
  wt : WT D ts s
  nm : Nm V ts
  sh : ∀ y ∈ ts, y.num.size ≤ 60
  le : ts.length ≤ Z
theorem Tm.mono {V : List (ByteArray × Int)} {D D' Z Z' : Nat} {ts : List Nd} {s : Int} (h : Tm V D Z ts s) (hd : D ≤ D') (hz : Z ≤ Z') : Tm V D' Z' ts s := ⟨h.wt.mono hd, h.nm, h.sh, Nat.le_trans h.le hz⟩
/-- terms of these sorts -/
inductive Tms (V : List (ByteArray × Int)) (D Z : Nat) : List (List Nd) → List Int → Prop
  | nil : Tms V D Z [] []
  | cons {t : List Nd} {s : Int} {L : List (List Nd)} {ss : List Int} : Tm V D Z t s → Tms V D Z L ss → Tms V D Z (t :: L) (s :: ss)
theorem Tms.len {V : List (ByteArray × Int)} {D Z : Nat} {L : List (List Nd)} {ss : List Int} (h : Tms V D Z L ss) : L.length = ss.length ∧ L.flatten.length ≤ L.length * Z := by
  induction h with
  | nil => exact ⟨rfl, by simp⟩
  | cons ht _ ih => have := ht.le; simp only [List.length_cons, List.flatten_cons, List.length_append]; exact ⟨by omega, by rw [Nat.succ_mul]; omega⟩
theorem Tms.we {V : List (ByteArray × Int)} {D Z : Nat} {L : List (List Nd)} {ss : List Int} (h : Tms V D Z L ss) : ∀ p, ∃ E S, WE p D L.flatten ss E S := by
  induction h with
  | nil => intro p; exact ⟨_, _, .nil _ _⟩
  | @cons t s L ss ht _ ih =>
    intro p
    obtain ⟨E, S, h0⟩ := ht.wt
    obtain ⟨E1, h1⟩ := h0.shift p
    obtain ⟨E2, S2, h2⟩ := ih (p + t.length)
    exact h1.app _ _ _ _ h2
theorem Tm.node {V : List (ByteArray × Int)} {D Z : Nat} {L : List (List Nd)} {ss : List Int} (h : Tms V D Z L ss) {x : Nd} {s : Int} (hn : NodeOk x L.flatten ss s) (h5 : ¬ x.op = 5) (h4 : x.op = 4 → lookA x.name V = some x.sort) (hs : x.num.size ≤ 60) : Tm V (D + 1) (1 + L.length * Z) (x :: L.flatten) s := by
  obtain ⟨E, S, hw⟩ := h.we 1
  have hl := h.len.2
  have hall : ∀ y ∈ L.flatten, (¬ y.op = 5 ∧ (y.op = 4 → lookA y.name V = some y.sort)) ∧ y.num.size ≤ 60 := by
    clear hn hw hl
    induction h with
    | nil => intro y hy; cases hy
    | cons ht _ ih =>
      intro y hy
      rw [List.flatten_cons, List.mem_append] at hy
      rcases hy with hy | hy
      · exact ⟨ht.nm y hy, ht.sh y hy⟩
      · exact ih y hy
  have h2 := WE.cons (p := 0) hw hn (.nil _ _)
  rw [List.append_nil] at h2
  refine ⟨⟨_, _, h2⟩, ?_, ?_, by rw [List.length_cons]; omega⟩
  · intro y hy
    rcases List.mem_cons.1 hy with rfl | hy
    · exact ⟨h5, h4⟩
    · exact (hall y hy).1
  · intro y hy
    rcases List.mem_cons.1 hy with rfl | hy
    · exact hs
    · exact (hall y hy).2
theorem Tm.one {V : List (ByteArray × Int)} {x : Nd} {s : Int} (hn : NodeOk x [] [] s) (h5 : ¬ x.op = 5) (h4 : x.op = 4 → lookA x.name V = some x.sort) (hs : x.num.size ≤ 60) : Tm V 1 1 [x] s := by
  have := Tm.node (D := 0) (Z := 0) (.nil : Tms V 0 0 [] []) hn h5 h4 hs
  simpa using this
def ndE (op : Int) (n : Nat) : Nd := ⟨op, 0, ⟨#[]⟩, ⟨#[]⟩, n⟩
end Go.Proofs.YthefknoicelhaaaGreatDoor.Se
/- The generator: Left, Vars, variable. -/
namespace Go.Proofs.YthefknoicelhaaaGreatDoor.Se
open Go.RowKit Nmx

/-- the variables that are drawn from -/
def vs8 : List (ByteArray × Int) := [(⟨#[120]⟩, 2), (⟨#[121]⟩, 2), (⟨#[122]⟩, 3), (⟨#[119]⟩, 3), (⟨#[112]⟩, 1), (⟨#[98]⟩, 1), (⟨#[97]⟩, 4), (⟨#[99]⟩, 4)]
theorem NodesAt.grown {w w' : World} {g C : Nat} {ts : List Nd} (h : NodesAt w g ts) (hg : w.grownBy w' (some C)) (hl : g < w.heap.size) (hC : g ≠ C) : NodesAt w' g ts :=
  fun i x hx j hj => (World.cell?_of_block (hg.block g hl (fun e => hC (Option.some.inj e)))).trans (h i x hx j hj)
theorem VarsAt.grown {w w' : World} {g C : Nat} {l : List (ByteArray × Int)} (h : VarsAt w g l) (hg : w.grownBy w' (some C)) (hl : g < w.heap.size) (hC : g ≠ C) : VarsAt w' g l :=
  fun j p hp => ⟨(World.cell?_of_block (hg.block g hl (fun e => hC (Option.some.inj e)))).trans (h j p hp).1, (World.cell?_of_block (hg.block g hl (fun e => hC (Option.some.inj e)))).trans (h j p hp).2⟩
theorem VarsAt.below {w w' : World} {B g : Nat} {l : List (ByteArray × Int)} (h : VarsAt w g l) (hb : Below B w w') (hl : g < B) : VarsAt w' g l :=
  fun j p hp => ⟨(hb.cell (p := ⟨g, j * 2, none⟩) hl).trans (h j p hp).1, (hb.cell (p := ⟨g, j * 2 + 1, none⟩) hl).trans (h j p hp).2⟩
end Go.Proofs.YthefknoicelhaaaGreatDoor.Se
/- The reference's ValidValue at small values. -/
namespace Go.Proofs.YthefknoicelhaaaGreatDoor.Se
open Go.RowKit Nmx

end Go.Proofs.YthefknoicelhaaaGreatDoor.Se
/- The reference's Store at an array value without keys. -/
namespace Go.Proofs.YthefknoicelhaaaGreatDoor.Se
open Go.RowKit Nmx

end Go.Proofs.YthefknoicelhaaaGreatDoor.Se
/- Join and op over drawn terms; ValueTerm of booleans and numbers. -/
namespace Go.Proofs.YthefknoicelhaaaGreatDoor.Se
open Go.RowKit Nmx

theorem kds1 {w : World} {K g1 c1 : Nat} {t1 : List Nd} {ty : TypeId} {fr : Nat × Nat} (hK : w.heap[K]? = some (.cells #[.slice (some ⟨g1, 0, none⟩) t1.length c1] ty fr)) (h1 : NodesAt w g1 t1) (l1 : g1 < w.heap.size) : Kds w (some ⟨K, 0, none⟩) K [t1] := by
  refine ⟨fun _ => rfl, lt_of_heap hK, fun j t ht => ?_⟩
  match j, ht with
  | 0, ht => cases ht; exact ⟨g1, c1, heap_cell hK 0, h1, l1⟩
theorem kds2 {w : World} {K g1 c1 g2 c2 : Nat} {t1 t2 : List Nd} {ty : TypeId} {fr : Nat × Nat} (hK : w.heap[K]? = some (.cells #[.slice (some ⟨g1, 0, none⟩) t1.length c1, .slice (some ⟨g2, 0, none⟩) t2.length c2] ty fr)) (h1 : NodesAt w g1 t1) (l1 : g1 < w.heap.size) (h2 : NodesAt w g2 t2) (l2 : g2 < w.heap.size) : Kds w (some ⟨K, 0, none⟩) K [t1, t2] := by
  refine ⟨fun _ => rfl, lt_of_heap hK, fun j t ht => ?_⟩
  match j, ht with
  | 0, ht => cases ht; exact ⟨g1, c1, heap_cell hK 0, h1, l1⟩
  | 1, ht => cases ht; exact ⟨g2, c2, heap_cell hK 1, h2, l2⟩
theorem kds3 {w : World} {K g1 c1 g2 c2 g3 c3 : Nat} {t1 t2 t3 : List Nd} {ty : TypeId} {fr : Nat × Nat} (hK : w.heap[K]? = some (.cells #[.slice (some ⟨g1, 0, none⟩) t1.length c1, .slice (some ⟨g2, 0, none⟩) t2.length c2, .slice (some ⟨g3, 0, none⟩) t3.length c3] ty fr)) (h1 : NodesAt w g1 t1) (l1 : g1 < w.heap.size) (h2 : NodesAt w g2 t2) (l2 : g2 < w.heap.size) (h3 : NodesAt w g3 t3) (l3 : g3 < w.heap.size) : Kds w (some ⟨K, 0, none⟩) K [t1, t2, t3] := by
  refine ⟨fun _ => rfl, lt_of_heap hK, fun j t ht => ?_⟩
  match j, ht with
  | 0, ht => cases ht; exact ⟨g1, c1, heap_cell hK 0, h1, l1⟩
  | 1, ht => cases ht; exact ⟨g2, c2, heap_cell hK 1, h2, l2⟩
  | 2, ht => cases ht; exact ⟨g3, c3, heap_cell hK 2, h3, l3⟩
/-- a new term; nothing else has changed -/
def VG (w : World) (D Z : Nat) (s : Int) (e : Ending) (w' : World) : Prop :=
  ∃ g c ts, e = .returned (.slice (some ⟨g, 0, none⟩) ts.length (ts.length + c)) ∧ NodesAt w' g ts ∧ g < w'.heap.size ∧ w.heap.size ≤ g ∧ Tm vs8 D Z ts s ∧ Below w.heap.size w w'
theorem VG.one {x : Nd} {w : World} {s : Int} {e : Ending} {w' : World} (h : OnePost x w e w') (ht : Tm vs8 1 1 [x] s) : VG w 1 1 s e w' :=
  let ⟨g, h1, h2, h3, h4, h5⟩ := h; ⟨g, 0, [x], h1, h2, h3, h4, ht, h5⟩
section
set_option maxHeartbeats 8000000
set_option maxRecDepth 100000
theorem join_tm {D Z : Nat} {s : Int} {L : List (List Nd)} {ss : List Int} (x : Nd) (ak : Option Addr) (gk ck : Nat) (w : World) (hk : Kds w ak gk L) (ht : Tms vs8 D Z L ss) (hz : L.length * Z ≤ 1000000) (hl : L.length ≤ 1000) (hn : NodeOk { x with kids := L.length } L.flatten ss s) (h5 : ¬ x.op = 5) (h4 : ¬ x.op = 4) (hs : x.num.size ≤ 60) :
    Calls Tryz.prog 23 #[x.val, .slice ak L.length ck] w (VG w (D + 1) (1 + L.length * Z) s) :=
  (join_any x ak gk ck L w hk (Nat.le_trans ht.len.2 hz) (by omega)).mono fun e w' ⟨g, c, h1, h2, h3, h4', h5'⟩ =>
    ⟨g, c, _, by rw [h1, List.length_cons, Nat.add_comm 1], h2, h3, h4', Tm.node ht hn h5 (fun e => absurd e h4) hs, h5'⟩
theorem op_tm {D Z : Nat} {s : Int} {L : List (List Nd)} {ss : List Int} (o : Int) (ak : Option Addr) (gk ck : Nat) (w : World) (hk : Kds w ak gk L) (ht : Tms vs8 D Z L ss) (hz : L.length * Z ≤ 1000000) (hl : L.length ≤ 1000) (hn : NodeOk (ndE o L.length) L.flatten ss s) (h5 : ¬ o = 5) (h4 : ¬ o = 4) :
    Calls Tryz.prog 41 #[.int .i64 o, .slice ak L.length ck] w (VG w (D + 1) (1 + L.length * Z) s) := by
  have hj := join_tm ⟨o, 0, ⟨#[]⟩, ⟨#[]⟩, 0⟩ ak gk ck w hk ht hz hl hn h5 h4 (by show (0 : Nat) ≤ 60; omega)
  clear hk ht hn
  generalize L.length = n at *
  unfold Nd.val at hj
  simp only at hj
  go_enter Tryz.func41, Tryz.ntmps41
  go_wp2_with fail
  refine hj.mono ?_
  rintro e w1 ⟨g, c, ts, rfl, hv⟩
  have HV := Lib.hid hv
  clear hv hj
  go_wp2
  go_ret
  exact ⟨g, c, ts, rfl, HV.out⟩
end
end Go.Proofs.YthefknoicelhaaaGreatDoor.Se
/- ValueTerm of small array values. -/
namespace Go.Proofs.YthefknoicelhaaaGreatDoor.Se
open Go.RowKit Nmx

theorem Tm.ok {D Z : Nat} {ts : List Nd} {s : Int} (h : Tm vs8 D Z ts s) (hd : D ≤ 257) (hz : Z ≤ 20000) (g cap : Nat) (w : World) (hN : NodesAt w g ts) (hg : g < w.heap.size) :
    Calls Tryz.prog 32 #[.slice (some ⟨g, 0, none⟩) ts.length cap] w fun e w' => e = .returned (.bool true) ∧ Below w.heap.size w w' :=
  refValidTerm_wt vs8 D ts s g cap w h.wt hd (Nat.le_trans h.le hz) h.nm (fun y hy => Nat.le_trans (h.sh y hy) (by omega)) hN hg
/-- a term in a block behind S -/
def TmAt (S D Z : Nat) (s : Int) (u : Value) (W : World) : Prop := ∃ g c ts, u = .slice (some ⟨g, 0, none⟩) ts.length (ts.length + c) ∧ NodesAt W g ts ∧ g < W.heap.size ∧ S ≤ g ∧ Tm vs8 D Z ts s
theorem TmAt.far {S D Z : Nat} {s : Int} {u : Value} {W W' : World} (h : TmAt S D Z s u W) (hb : Below W.heap.size W W') : TmAt S D Z s u W' :=
  let ⟨g, c, ts, h1, h2, h3, h4, h5⟩ := h; ⟨g, c, ts, h1, h2.below hb h3, Nat.lt_of_lt_of_le h3 hb.size, h4, h5⟩
theorem TmAt.mono {S D Z D' Z' : Nat} {s : Int} {u : Value} {W : World} (h : TmAt S D Z s u W) (hd : D ≤ D') (hz : Z ≤ Z') : TmAt S D' Z' s u W :=
  let ⟨g, c, ts, h1, h2, h3, h4, h5⟩ := h; ⟨g, c, ts, h1, h2, h3, h4, h5.mono hd hz⟩
end Go.Proofs.YthefknoicelhaaaGreatDoor.Se
/- The generator's Small; ValueTerm behind it. -/
namespace Go.Proofs.YthefknoicelhaaaGreatDoor.Se
open Go.RowKit Nmx

/-- what drawing does to the world -/
def ChR (C : Nat) (ao : Option Addr) (n cap : Nat) (w w' : World) : Prop := w.grownBy w' (some C) ∧ (Ch C ao n cap w → Ch C ao n cap w')
theorem ChR.refl {C : Nat} {ao : Option Addr} {n cap : Nat} (w : World) : ChR C ao n cap w w := ⟨grown_refl w _, id⟩
theorem ChR.of {C : Nat} {ao : Option Addr} {n cap : Nat} {w w' : World} (hb : Below w.heap.size w w') : ChR C ao n cap w w' := ⟨grown_more (grown_below hb), fun h => h.call hb⟩
end Go.Proofs.YthefknoicelhaaaGreatDoor.Se
/- What a walk that draws terms keeps; op over terms that were drawn; Num. -/
namespace Go.Proofs.YthefknoicelhaaaGreatDoor.Se
open Go.RowKit Nmx

theorem TmAt.grown {S D Z C : Nat} {s : Int} {u : Value} {W W' : World} (h : TmAt S D Z s u W) (hg : W.grownBy W' (some C)) (hC : C < S) : TmAt S D Z s u W' :=
  let ⟨g, c, ts, h1, h2, h3, h4, h5⟩ := h; ⟨g, c, ts, h1, h2.grown hg h3 (by omega), Nat.lt_of_lt_of_le h3 hg.size, h4, h5⟩
/-- what every world of a drawing keeps -/
structure GX (C : Nat) (ao : Option Addr) (n cap gv : Nat) (w W : World) : Prop where
  ch : Ch C ao n cap W
  vs : VarsAt W gv vs8
  lg : gv < W.heap.size
  ne : gv ≠ C
  gr : w.grownBy W (some C)
  lw : gv < w.heap.size
theorem GX.start {C : Nat} {ao : Option Addr} {n cap gv : Nat} {w : World} (h : Ch C ao n cap w) (hv : VarsAt w gv vs8) (hg : gv < w.heap.size) (hn : gv ≠ C) : GX C ao n cap gv w w := ⟨h, hv, hg, hn, grown_refl w _, hg⟩
theorem GX.next {C : Nat} {ao : Option Addr} {n cap gv : Nat} {w W W' : World} (h : GX C ao n cap gv w W) (hc : Ch C ao n cap W') (hg : W.grownBy W' (some C)) : GX C ao n cap gv w W' :=
  ⟨hc, h.vs.grown hg h.lg h.ne, Nat.lt_of_lt_of_le h.lg hg.size, h.ne, grown_trans h.gr hg, h.lw⟩
theorem GX.call {C : Nat} {ao : Option Addr} {n cap gv : Nat} {w W W' : World} (h : GX C ao n cap gv w W) (hb : Below W.heap.size W W') : GX C ao n cap gv w W' :=
  h.next (h.ch.call hb) (grown_more (grown_below hb))
theorem GX.drewN {C : Nat} {ao : Option Addr} {n cap gv : Nat} {w W : World} (h : GX C ao n cap gv w W) (k : Nat) : GX C ao n cap gv w (W.drewN k) :=
  h.next (h.ch.drewN k) (grown_drewN (grown_refl W _) k)
theorem GX.at {C : Nat} {ao : Option Addr} {n cap gv : Nat} {w W : World} (h : GX C ao n cap gv w W) : GX C ao n cap gv W W := ⟨h.ch, h.vs, h.lg, h.ne, grown_refl W _, h.lg⟩
section
set_option maxHeartbeats 8000000
set_option maxRecDepth 100000
theorem op1 {S D Z : Nat} {s1 s : Int} {u1 : Value} {W : World} (o : Int) (h1 : TmAt S D Z s1 u1 W) (hz : Z ≤ 100000) (hn : ∀ ks, NodeOk (ndE o 1) ks [s1] s) (h5 : ¬ o = 5) (h4 : ¬ o = 4) :
    Calls Tryz.prog 41 #[.int .i64 o, .slice (some ⟨W.heap.size, 0, none⟩) 1 1] (W.alloc (.cells #[u1] 26)) (VG (W.alloc (.cells #[u1] 26)) (D + 1) (1 + 1 * Z) s) := by
  obtain ⟨g1, c1, t1, rfl, a1, b1, -, d1⟩ := h1
  have hb := alloc_far' W (.cells #[.slice (some ⟨g1, 0, none⟩) t1.length (t1.length + c1)] 26)
  have hk := kds1 (t1 := t1) (heap_alloc_new W (.cells #[.slice (some ⟨g1, 0, none⟩) t1.length (t1.length + c1)] 26)) (a1.below hb b1) (Nat.lt_of_lt_of_le b1 hb.size)
  exact op_tm o _ _ 1 _ hk (.cons d1 .nil) (by simp; omega) (by simp) (hn _) h5 h4
theorem op2 {S D Z : Nat} {s1 s2 s : Int} {u1 u2 : Value} {W : World} (o : Int) (h1 : TmAt S D Z s1 u1 W) (h2 : TmAt S D Z s2 u2 W) (hz : Z ≤ 100000) (hn : ∀ ks, NodeOk (ndE o 2) ks [s1, s2] s) (h5 : ¬ o = 5) (h4 : ¬ o = 4) :
    Calls Tryz.prog 41 #[.int .i64 o, .slice (some ⟨W.heap.size, 0, none⟩) 2 2] (W.alloc (.cells #[u1, u2] 26)) (VG (W.alloc (.cells #[u1, u2] 26)) (D + 1) (1 + 2 * Z) s) := by
  obtain ⟨g1, c1, t1, rfl, a1, b1, -, d1⟩ := h1
  obtain ⟨g2, c2, t2, rfl, a2, b2, -, d2⟩ := h2
  have hb := alloc_far' W (.cells #[.slice (some ⟨g1, 0, none⟩) t1.length (t1.length + c1), .slice (some ⟨g2, 0, none⟩) t2.length (t2.length + c2)] 26)
  have hk := kds2 (t1 := t1) (t2 := t2) (heap_alloc_new W (.cells #[.slice (some ⟨g1, 0, none⟩) t1.length (t1.length + c1), .slice (some ⟨g2, 0, none⟩) t2.length (t2.length + c2)] 26)) (a1.below hb b1) (Nat.lt_of_lt_of_le b1 hb.size) (a2.below hb b2) (Nat.lt_of_lt_of_le b2 hb.size)
  exact op_tm o _ _ 2 _ hk (.cons d1 (.cons d2 .nil)) (by simp; omega) (by simp) (hn _) h5 h4
theorem op3 {S D Z : Nat} {s1 s2 s3 s : Int} {u1 u2 u3 : Value} {W : World} (o : Int) (h1 : TmAt S D Z s1 u1 W) (h2 : TmAt S D Z s2 u2 W) (h3 : TmAt S D Z s3 u3 W) (hz : Z ≤ 100000) (hn : ∀ ks, NodeOk (ndE o 3) ks [s1, s2, s3] s) (h5 : ¬ o = 5) (h4 : ¬ o = 4) :
    Calls Tryz.prog 41 #[.int .i64 o, .slice (some ⟨W.heap.size, 0, none⟩) 3 3] (W.alloc (.cells #[u1, u2, u3] 26)) (VG (W.alloc (.cells #[u1, u2, u3] 26)) (D + 1) (1 + 3 * Z) s) := by
  obtain ⟨g1, c1, t1, rfl, a1, b1, -, d1⟩ := h1
  obtain ⟨g2, c2, t2, rfl, a2, b2, -, d2⟩ := h2
  obtain ⟨g3, c3, t3, rfl, a3, b3, -, d3⟩ := h3
  have hb := alloc_far' W (.cells #[.slice (some ⟨g1, 0, none⟩) t1.length (t1.length + c1), .slice (some ⟨g2, 0, none⟩) t2.length (t2.length + c2), .slice (some ⟨g3, 0, none⟩) t3.length (t3.length + c3)] 26)
  have hk := kds3 (t1 := t1) (t2 := t2) (t3 := t3) (heap_alloc_new W (.cells #[.slice (some ⟨g1, 0, none⟩) t1.length (t1.length + c1), .slice (some ⟨g2, 0, none⟩) t2.length (t2.length + c2), .slice (some ⟨g3, 0, none⟩) t3.length (t3.length + c3)] 26)) (a1.below hb b1) (Nat.lt_of_lt_of_le b1 hb.size) (a2.below hb b2) (Nat.lt_of_lt_of_le b2 hb.size) (a3.below hb b3) (Nat.lt_of_lt_of_le b3 hb.size)
  exact op_tm o _ _ 3 _ hk (.cons d1 (.cons d2 (.cons d3 .nil))) (by simp; omega) (by simp) (hn _) h5 h4
end
end Go.Proofs.YthefknoicelhaaaGreatDoor.Se
/- Term at depth 0, ite, atom. -/
namespace Go.Proofs.YthefknoicelhaaaGreatDoor.Se
open Go.RowKit Nmx

end Go.Proofs.YthefknoicelhaaaGreatDoor.Se
/- Formula, one level deeper. -/
namespace Go.Proofs.YthefknoicelhaaaGreatDoor.Se
open Go.RowKit Nmx

theorem GX.own {C : Nat} {ao : Option Addr} {n cap gv : Nat} {w W W' : World} {r : Option Nat} (h : GX C ao n cap gv w W) (hg : W.grownBy W' r) (hr : ∀ k, r = some k → w.heap.size ≤ k) (hC : C < w.heap.size) : GX C ao n cap gv w W' :=
  have hlw := h.lw
  have hv : ∀ j, W'.cell? ⟨gv, j, none⟩ = W.cell? ⟨gv, j, none⟩ := fun j => World.cell?_of_block (hg.block gv h.lg (fun e => by have := hr gv e.symm; omega))
  ⟨h.ch.grown hg (fun k e => by have := hr k e; omega), fun j p hp => ⟨(hv _).trans (h.vs j p hp).1, (hv _).trans (h.vs j p hp).2⟩, Nat.lt_of_lt_of_le h.lg hg.size, h.ne,
    ⟨hg.os.trans h.gr.os, hg.tape.trans h.gr.tape, hg.output.trans h.gr.output, Nat.le_trans h.gr.size hg.size, fun k hk hne => (hg.block k (Nat.lt_of_lt_of_le hk h.gr.size) (fun e => by have := hr k e.symm; omega)).trans (h.gr.block k hk hne)⟩, hlw⟩
end Go.Proofs.YthefknoicelhaaaGreatDoor.Se
/- arithmetic, and Term one level deeper; Term at depth 3. -/
namespace Go.Proofs.YthefknoicelhaaaGreatDoor.Se
open Go.RowKit Nmx

theorem GX.rel {C : Nat} {ao : Option Addr} {n cap gv : Nat} {w W W' : World} (h : GX C ao n cap gv w W) (hr : ChR C ao n cap W W') : GX C ao n cap gv w W' := h.next (hr.2 h.ch) hr.1
end Go.Proofs.YthefknoicelhaaaGreatDoor.Se
/- The law's with: a drawn term, some of it under a function. -/
namespace Go.Proofs.YthefknoicelhaaaGreatDoor.Se
open Go.RowKit Nmx

end Go.Proofs.YthefknoicelhaaaGreatDoor.Se
/- The reference's cmp and cmpText. -/
namespace Go.Proofs.YthefknoicelhaaaGreatDoor.Se
open Go.RowKit Nmx

def cmpI (a b : Int) : Int := if a < b then -1 else if b < a then 1 else 0
def cmpS (a b : ByteArray) : Int := if Op.bytesLess a.toList b.toList then -1 else if a.toList == b.toList then 0 else 1
/-- the first of them that is not 0 -/
def firstN : List Int → Int
  | [] => 0
  | c :: l => if c = 0 then firstN l else c
def ndCmp (x y : Nd) : Int := firstN [cmpI x.op y.op, cmpI x.sort y.sort, cmpS x.name y.name, cmpS x.num y.num, cmpI x.kids y.kids]
/-- the order of lists of nodes -/
def tsCmp : List Nd → List Nd → Int
  | [], [] => 0
  | [], _ :: _ => -1
  | _ :: _, [] => 1
  | x :: a, y :: b => if ndCmp x y = 0 then tsCmp a b else ndCmp x y
section
set_option maxHeartbeats 8000000
set_option maxRecDepth 100000
theorem cmpA_any (a b : Int) (w : World) : Calls Tryz.prog 60 #[.int .i64 a, .int .i64 b] w fun e w' => e = .returned (.int .i64 (cmpI a b)) ∧ w' = w := by
  by_cases h1 : a < b
  · have HN : Hid (cmpI a b = -1) := Lib.hid (by unfold cmpI; rw [if_pos h1])
    go_enter Tryz.func60, Tryz.ntmps60
    go_wp2
    go_ret
    exact ⟨by rw [HN.out]; rfl, rfl⟩
  · by_cases h2 : b < a
    · have HN : Hid (cmpI a b = 1) := Lib.hid (by unfold cmpI; rw [if_neg h1, if_pos h2])
      go_enter Tryz.func60, Tryz.ntmps60
      go_wp2
      go_ret
      exact ⟨by rw [HN.out]; rfl, rfl⟩
    · have HN : Hid (cmpI a b = 0) := Lib.hid (by unfold cmpI; rw [if_neg h1, if_neg h2])
      go_enter Tryz.func60, Tryz.ntmps60
      go_wp2
      go_ret
      exact ⟨by rw [HN.out]; rfl, rfl⟩
theorem cmpText_any (a b : ByteArray) (w : World) : Calls Tryz.prog 61 #[.string a, .string b] w fun e w' => e = .returned (.int .i64 (cmpS a b)) ∧ w' = w := by
  cases h1 : Op.bytesLess a.toList b.toList
  · cases h2 : (a.toList == b.toList)
    · have HN : Hid (cmpS a b = 1) := Lib.hid (by unfold cmpS; rw [h1, h2]; rfl)
      go_enter Tryz.func61, Tryz.ntmps61
      go_wp2
      go_ret
      exact ⟨by rw [HN.out]; rfl, rfl⟩
    · have HN : Hid (cmpS a b = 0) := Lib.hid (by unfold cmpS; rw [h1, h2]; rfl)
      go_enter Tryz.func61, Tryz.ntmps61
      go_wp2
      go_ret
      exact ⟨by rw [HN.out]; rfl, rfl⟩
  · have HN : Hid (cmpS a b = -1) := Lib.hid (by unfold cmpS; rw [h1]; rfl)
    go_enter Tryz.func61, Tryz.ntmps61
    go_wp2
    go_ret
    exact ⟨by rw [HN.out]; rfl, rfl⟩
end
end Go.Proofs.YthefknoicelhaaaGreatDoor.Se
/- The reference's Compare: the copies of two nodes. -/
namespace Go.Proofs.YthefknoicelhaaaGreatDoor.Se
open Go.RowKit Nmx

/-- a list of nodes that may lie anywhere in its block -/
def NodesO (w : World) (ao : Option Addr) (ts : List Nd) : Prop := ts.length ≠ 0 → ∃ g off, ao = some ⟨g, off, none⟩ ∧ g < w.heap.size ∧ ∀ i x, ts[i]? = some x → ∀ j, j < 5 → w.cell? ⟨g, off + i * 5 + j, none⟩ = x.cells[j]?
theorem NodesO.below {w w' : World} {B : Nat} {ao : Option Addr} {ts : List Nd} (h : NodesO w ao ts) (hb : Below B w w') (hB : w.heap.size ≤ B) : NodesO w' ao ts := fun hn =>
  let ⟨g, off, e, hl, hc⟩ := h hn; ⟨g, off, e, Nat.lt_of_lt_of_le hl hb.size, fun i x hx j hj => (hb.cell (p := ⟨g, off + i * 5 + j, none⟩) (by show g < B; omega)).trans (hc i x hx j hj)⟩
theorem NodesAt.o {w : World} {g : Nat} {ts : List Nd} (h : NodesAt w g ts) (hg : g < w.heap.size) : NodesO w (some ⟨g, 0, none⟩) ts := fun _ => ⟨g, 0, rfl, hg, fun i x hx j hj => by rw [Nat.zero_add]; exact h i x hx j hj⟩
/-- two nodes, each in its list -/
structure CN (S g1 o1 g2 o2 : Nat) (op1 sort1 kids1 op2 sort2 kids2 : Int) (name1 num1 name2 num2 : ByteArray) (w W : World) : Prop where
  a0 : W.cell? ⟨g1, o1, none⟩ = some (.int .i64 op1)
  a1 : W.cell? ⟨g1, o1 + 1, none⟩ = some (.int .i64 sort1)
  a2 : W.cell? ⟨g1, o1 + 2, none⟩ = some (.string name1)
  a3 : W.cell? ⟨g1, o1 + 3, none⟩ = some (.string num1)
  a4 : W.cell? ⟨g1, o1 + 4, none⟩ = some (.int .i64 kids1)
  b0 : W.cell? ⟨g2, o2, none⟩ = some (.int .i64 op2)
  b1 : W.cell? ⟨g2, o2 + 1, none⟩ = some (.int .i64 sort2)
  b2 : W.cell? ⟨g2, o2 + 2, none⟩ = some (.string name2)
  b3 : W.cell? ⟨g2, o2 + 3, none⟩ = some (.string num2)
  b4 : W.cell? ⟨g2, o2 + 4, none⟩ = some (.int .i64 kids2)
  l1 : g1 < S
  l2 : g2 < S
  ls : S ≤ W.heap.size
  bel : Below S w W
theorem CN.keep {S g1 o1 g2 o2 : Nat} {op1 sort1 kids1 op2 sort2 kids2 : Int} {name1 num1 name2 num2 : ByteArray} {w W W' : World} (h : CN S g1 o1 g2 o2 op1 sort1 kids1 op2 sort2 kids2 name1 num1 name2 num2 w W) (hb : Below S W W') : CN S g1 o1 g2 o2 op1 sort1 kids1 op2 sort2 kids2 name1 num1 name2 num2 w W' :=
  ⟨(hb.cell (p := ⟨g1, o1, none⟩) h.l1).trans h.a0, (hb.cell (p := ⟨g1, o1 + 1, none⟩) h.l1).trans h.a1, (hb.cell (p := ⟨g1, o1 + 2, none⟩) h.l1).trans h.a2, (hb.cell (p := ⟨g1, o1 + 3, none⟩) h.l1).trans h.a3, (hb.cell (p := ⟨g1, o1 + 4, none⟩) h.l1).trans h.a4,
   (hb.cell (p := ⟨g2, o2, none⟩) h.l2).trans h.b0, (hb.cell (p := ⟨g2, o2 + 1, none⟩) h.l2).trans h.b1, (hb.cell (p := ⟨g2, o2 + 2, none⟩) h.l2).trans h.b2, (hb.cell (p := ⟨g2, o2 + 3, none⟩) h.l2).trans h.b3, (hb.cell (p := ⟨g2, o2 + 4, none⟩) h.l2).trans h.b4, h.l1, h.l2, Nat.le_trans h.ls hb.size, h.bel.trans hb⟩
theorem below_set5 {S B : Nat} {w W : World} (h : Below S w W) (hB : S ≤ B) (v0 v1 v2 v3 v4 : Value) : Below S w (((((W.setCell ⟨B, 0, none⟩ v0).setCell ⟨B, 1, none⟩ v1).setCell ⟨B, 2, none⟩ v2).setCell ⟨B, 3, none⟩ v3).setCell ⟨B, 4, none⟩ v4) :=
  ((((h.setCell (p := ⟨B, 0, none⟩) hB _).setCell (p := ⟨B, 1, none⟩) hB _).setCell (p := ⟨B, 2, none⟩) hB _).setCell (p := ⟨B, 3, none⟩) hB _).setCell (p := ⟨B, 4, none⟩) hB _
theorem other_set5 {B B' : Nat} {W : World} {ob : Obj} (h : W.heap[B']? = some ob) (hB : B' ≠ B) (v0 v1 v2 v3 v4 : Value) : (((((W.setCell ⟨B, 0, none⟩ v0).setCell ⟨B, 1, none⟩ v1).setCell ⟨B, 2, none⟩ v2).setCell ⟨B, 3, none⟩ v3).setCell ⟨B, 4, none⟩ v4).heap[B']? = some ob := by
  rw [Below.heap_setCell _ _ _ _ hB, Below.heap_setCell _ _ _ _ hB, Below.heap_setCell _ _ _ _ hB, Below.heap_setCell _ _ _ _ hB, Below.heap_setCell _ _ _ _ hB]; exact h
theorem same_set5 {B : Nat} {W : World} {u0 u1 u2 u3 u4 : Value} {t : TypeId} {fr : Nat × Nat} (h : W.heap[B]? = some (.cells #[u0, u1, u2, u3, u4] t fr)) (v0 v1 v2 v3 v4 : Value) : (((((W.setCell ⟨B, 0, none⟩ v0).setCell ⟨B, 1, none⟩ v1).setCell ⟨B, 2, none⟩ v2).setCell ⟨B, 3, none⟩ v3).setCell ⟨B, 4, none⟩ v4).heap[B]? = some (.cells #[v0, v1, v2, v3, v4] t fr) :=
  heap_set (heap_set (heap_set (heap_set (heap_set h 0 v0) 1 v1) 2 v2) 3 v3) 4 v4
end Go.Proofs.YthefknoicelhaaaGreatDoor.Se

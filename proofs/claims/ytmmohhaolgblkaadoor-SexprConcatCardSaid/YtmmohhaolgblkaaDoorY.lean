/- The reference's Parse answers as the program's. -/
import Derived.Test.YtmmohhaolgblkaaDoorX
import Derived.Test.YtmmohhaolgblkaaDoorR
import Derived.Deep.Cut
import Derived.Deep.CutRange
namespace Go.Proofs.YtmmohhaolgblkaaDoor
open Go.RowKit

/-- the two rows that the loop builds -/
structure RI (B : Nat) (w wr : World) (vo vp : Value) (its : List It) (op : List Nat) : Prop where
  out : wr.ownsRow B 31 4 vo its.length (flat its)
  opn : wr.ownsRow B 3 1 vp op.length (ints op)
  bel : Below B w wr
  le : B ≤ wr.heap.size
theorem RI.alloc {B : Nat} {w wr : World} {vo vp : Value} {its : List It} {op : List Nat} (h : RI B w wr vo vp its op) (o : Obj) : RI B w (wr.alloc o) vo vp its op :=
  ⟨h.out.alloc o, h.opn.alloc o, h.bel.alloc h.le o, by have := h.le; simp; omega⟩
theorem RI.drewN {B : Nat} {w wr : World} {vo vp : Value} {its : List It} {op : List Nat} (h : RI B w wr vo vp its op) (n : Nat) : RI B w (wr.drewN n) vo vp its op :=
  ⟨h.out, h.opn, below_drewN h.bel n, h.le⟩
/-- .. and the item that is being made, in a block of its own -/
structure RX (B : Nat) (w wr : World) (vo vp : Value) (its : List It) (op : List Nat) (b : Nat) (x : It) : Prop where
  ri : RI B w wr vo vp its op
  blk : wr.heap[b]? = some (.cells x.cells.toArray 31 (0, 0))
  no : vo.ownBlock ≠ some b
  np : vp.ownBlock ≠ some b
  bb : B ≤ b
theorem RX.new {B : Nat} {w wr : World} {vo vp : Value} {its : List It} {op : List Nat} (h : RI B w wr vo vp its op) (x : It) (n : Nat) : RX B w ((wr.alloc (.cells x.cells.toArray 31 (0, 0))).drewN n) vo vp its op wr.heap.size x := by
  refine ⟨(h.alloc _).drewN n, ?_, fun e => ?_, fun e => ?_, h.le⟩
  · show (wr.heap.push _)[wr.heap.size]? = _; simp
  · have := (h.out.lt _ e).2; omega
  · have := (h.opn.lt _ e).2; omega
theorem RX.lt {B : Nat} {w wr : World} {vo vp : Value} {its : List It} {op : List Nat} {b : Nat} {x : It} (h : RX B w wr vo vp its op b x) : b < wr.heap.size := by
  have := h.blk
  rcases Nat.lt_or_ge b wr.heap.size with h' | h'
  · exact h'
  · rw [Array.getElem?_eq_none h'] at this; cases this
theorem RX.cell {B : Nat} {w wr : World} {vo vp : Value} {its : List It} {op : List Nat} {b : Nat} {x : It} (h : RX B w wr vo vp its op b x) (j : Nat) : wr.cell? ⟨b, j, none⟩ = x.cells[j]? := by
  simp [World.cell?, h.blk]
theorem RX.opCell {B : Nat} {w wr : World} {vo vp : Value} {its : List It} {op : List Nat} {b : Nat} {x : It} (h : RX B w wr vo vp its op b x) {g cap : Nat} (hv : vp = .slice (some ⟨g, 0, none⟩) op.length cap) {j i : Nat} (hx : op[j]? = some i) : wr.cell? ⟨g, j, none⟩ = some (.int .i64 i) := by
  have hi := h.ri.opn
  rw [hv] at hi
  have hil : j < op.length := (List.getElem?_eq_some_iff.1 hx).1
  rw [hi.cellAt j (by omega)]; simp [ints, hx]
/-- the count of the innermost open list goes up -/
theorem RX.bumped {B : Nat} {w wr : World} {vo vp : Value} {its : List It} {op : List Nat} {b : Nat} {x : It} (h : RX B w wr vo vp its op b x) {g cap : Nat} (hv : vo = .slice (some ⟨g, 0, none⟩) its.length cap) {i : Nat} {y : It} (hy : its[i]? = some y) (q : Int) (hq : q = y.kids + 1) :
    RX B w (wr.setCell ⟨g, i * 4 + 2, none⟩ (.int .i64 q)) vo vp (its.modify i It.bump) op b x := by
  subst hq
  have hi := h.ri.out
  have hlt := hi.lt g (by rw [hv]; rfl)
  have hne : b ≠ g := fun e => h.no (by rw [hv, e]; rfl)
  refine ⟨⟨?_, ?_, ?_, ?_⟩, ?_, h.no, h.np, h.bb⟩
  · rw [hv] at hi ⊢
    rw [List.length_modify, flat_bump its i y hy]
    exact (hi.stored (i * 4 + 2) _).1
  · refine ownsRow_setCell_other h.ri.opn ?_ _
    exact ownsRow_apart hi h.ri.opn (by decide) (by rw [hv]; rfl)
  · exact h.ri.bel.setCell (by show B ≤ g; omega) _
  · simpa [World.setCell] using h.ri.le
  · rw [Below.heap_setCell _ _ _ _ (by show b ≠ g; exact hne)]; exact h.blk
/-- the item is appended -/
theorem RX.pushed {B : Nat} {w wr : World} {vo vp : Value} {its : List It} {op : List Nat} {b : Nat} {x : It} (h : RX B w wr vo vp its op b x) (o : Obj) {w2 : World} {v' : Value}
    (hown : w2.ownsRow B 31 4 v' (its.length + 1) (flat its ++ x.cells)) (hg : (wr.alloc o).grownBy w2 vo.ownBlock) : RI B w w2 v' vp (its ++ [x]) op ∧ w2.cell? ⟨b, 0, none⟩ = some (.int .i64 x.kind) := by
  have hb : w2.heap[b]? = some (.cells x.cells.toArray 31 (0, 0)) := by
    rw [hg.block b (by have := h.lt; simp; omega) (fun e => h.no e.symm), ← h.blk]
    show (wr.heap.push o)[b]? = _
    rw [Array.getElem?_push, if_neg (Nat.ne_of_lt h.lt)]
  refine ⟨⟨?_, ?_, ?_, ?_⟩, ?_⟩
  · rw [flat_append, List.length_append]
    simpa [flat] using hown
  · refine (h.ri.opn.alloc o).kept hg ?_
    cases e : vp.ownBlock with
    | none => exact .inl rfl
    | some g => exact .inr (fun h2 => ownsRow_apart h.ri.opn h.ri.out (by decide) e h2.symm)
  · exact (h.ri.bel.alloc h.ri.le o).grown hg (by have := h.ri.le; simp; omega) (fun k hk => (h.ri.out.lt k hk).1)
  · have := hg.size; simp at this; have := h.ri.le; omega
  · simp [World.cell?, hb, It.cells]
theorem RX.out' {B : Nat} {w wr : World} {vo vp : Value} {its : List It} {op : List Nat} {b n : Nat} {x : It} (h : RX B w wr vo vp its op b x) (hn : its.length = n) : wr.ownsRow B 31 4 vo n (flat its) := by subst hn; exact h.ri.out
theorem RX.pushed' {B : Nat} {w wr : World} {vo vp : Value} {its : List It} {op : List Nat} {b n : Nat} {x : It} (h : RX B w wr vo vp its op b x) (hn : its.length = n) (o : Obj) {w2 : World} {v' : Value}
    (hown : w2.ownsRow B 31 4 v' (n + 1) (flat its ++ x.cells)) (hg : (wr.alloc o).grownBy w2 vo.ownBlock) : RI B w w2 v' vp (its ++ [x]) op ∧ w2.cell? ⟨b, 0, none⟩ = some (.int .i64 x.kind) := by subst hn; exact h.pushed o hown hg
theorem RX.new0 {B : Nat} {w wr : World} {vo vp : Value} {its : List It} {op : List Nat} (h : RI B w wr vo vp its op) (x : It) : RX B w (wr.alloc (.cells x.cells.toArray 31 (0, 0))) vo vp its op wr.heap.size x := RX.new h x 0
theorem RI.bumped {B : Nat} {w wr : World} {vo vp : Value} {its : List It} {op : List Nat} (h : RI B w wr vo vp its op) {g cap : Nat} (hv : vo = .slice (some ⟨g, 0, none⟩) its.length cap) {i : Nat} {y : It} (hy : its[i]? = some y) (q : Int) (hq : q = y.kids + 1) :
    RI B w (wr.setCell ⟨g, i * 4 + 2, none⟩ (.int .i64 q)) vo vp (its.modify i It.bump) op := by
  subst hq
  have hi := h.out
  have hlt := hi.lt g (by rw [hv]; rfl)
  refine ⟨?_, ?_, ?_, ?_⟩
  · rw [hv] at hi ⊢
    rw [List.length_modify, flat_bump its i y hy]
    exact (hi.stored (i * 4 + 2) _).1
  · refine ownsRow_setCell_other h.opn ?_ _
    exact ownsRow_apart hi h.opn (by decide) (by rw [hv]; rfl)
  · exact h.bel.setCell (by show B ≤ g; omega) _
  · simpa [World.setCell] using h.le
theorem RX.newB {B : Nat} {w wr : World} {vo vp : Value} {its : List It} {op : List Nat} (h : RI B w wr vo vp its op) {g cap : Nat} (hv : vo = .slice (some ⟨g, 0, none⟩) its.length cap) {i : Nat} {y : It} (hy : its[i]? = some y) (q : Int) (hq : q = y.kids + 1) (x : It) :
    RX B w ((wr.setCell ⟨g, i * 4 + 2, none⟩ (.int .i64 q)).alloc (.cells x.cells.toArray 31 (0, 0))) vo vp (its.modify i It.bump) op wr.heap.size x := by
  have := RX.new0 (h.bumped hv hy q hq) x
  rwa [show (wr.setCell ⟨g, i * 4 + 2, none⟩ (.int .i64 q)).heap.size = wr.heap.size by simp [World.setCell]] at this
theorem RX.drewN {B : Nat} {w wr : World} {vo vp : Value} {its : List It} {op : List Nat} {b : Nat} {x : It} (h : RX B w wr vo vp its op b x) (n : Nat) : RX B w (wr.drewN n) vo vp its op b x :=
  ⟨h.ri.drewN n, h.blk, h.no, h.np, h.bb⟩
theorem news_one (w : World) (cs : Array Value) (t : TypeId) (n : Nat) (h : w.heap.size = n) : ∀ (j : Nat) (u : Value), cs.toList[j]? = some u → (w.alloc (.cells cs t (0, 0))).cell? ((⟨n, 0, none⟩ : Addr).add j) = some u := by
  have := World.news_of_block (fr := (0, 0)) (heap_alloc_new w (.cells cs t (0, 0)))
  rwa [h] at this
theorem news_two (w : World) (X : Obj) (cs : Array Value) (t : TypeId) (n : Nat) (h : w.heap.size = n) : ∀ (j : Nat) (u : Value), cs.toList[j]? = some u → ((w.alloc X).alloc (.cells cs t (0, 0))).cell? ((⟨n + 1, 0, none⟩ : Addr).add j) = some u := by
  have := World.news_of_block (fr := (0, 0)) (heap_alloc_new (w.alloc X) (.cells cs t (0, 0)))
  rwa [show (w.alloc X).heap.size = n + 1 by simp [h]] at this
theorem RX.newW {B : Nat} {w wr : World} {vo vp : Value} {its : List It} {op : List Nat} (h : RI B w wr vo vp its op) (kd pos : Int) (t : ByteArray) (n : Nat) :
    RX B w ((((wr.alloc (.cells #[.int .i64 0, .string ⟨#[]⟩, .int .i64 0, .int .i64 pos] 31)).drewN n).setCell ⟨wr.heap.size, 0, none⟩ (.int .i64 kd)).setCell ⟨wr.heap.size, 1, none⟩ (.string t)) vo vp its op wr.heap.size ⟨kd, t, 0, pos⟩ := by
  have h0 := RX.new h ⟨0, ⟨#[]⟩, 0, pos⟩ n
  have hb := h0.blk
  refine ⟨⟨?_, ?_, ?_, ?_⟩, ?_, h0.no, h0.np, h0.bb⟩
  · exact ownsRow_setCell_other (ownsRow_setCell_other h0.ri.out h0.no _) h0.no _
  · exact ownsRow_setCell_other (ownsRow_setCell_other h0.ri.opn h0.np _) h0.np _
  · exact (h0.ri.bel.setCell h0.bb _).setCell h0.bb _
  · simpa [World.setCell] using h0.ri.le
  · have e : (wr.heap.push (Obj.cells #[.int .i64 0, .string ⟨#[]⟩, .int .i64 0, .int .i64 pos] 31 (0, 0)))[wr.heap.size]? = some (Obj.cells #[.int .i64 0, .string ⟨#[]⟩, .int .i64 0, .int .i64 pos] 31 (0, 0)) := by simp
    simp only [World.setCell, Array.getElem?_modify]
    show Option.map _ (Option.map _ (wr.heap.push _)[wr.heap.size]?) = _
    rw [e]; rfl
/-- a list is opened -/
theorem RI.opened {B : Nat} {w wr : World} {vo vp : Value} {its : List It} {op : List Nat} (h : RI B w wr vo vp its op) (o : Obj) {w2 : World} {v' : Value} (n : Nat) {b : Nat} (hb : B ≤ b)
    (hown : w2.ownsRow b 3 1 v' (op.length + 1) (ints op ++ [.int .i64 n])) (hg : (wr.alloc o).grownBy w2 none) : RI B w w2 vo v' its (op ++ [n]) := by
  have hle := h.le
  refine ⟨?_, ?_, ?_, ?_⟩
  · refine (h.out.alloc o).kept hg ?_
    cases e : vo.ownBlock with
    | none => exact .inl rfl
    | some g => exact .inr (by simp)
  · have := ownsRow_mono hown (b' := B) hb
    rw [List.length_append]
    simpa [ints] using this
  · exact (h.bel.alloc hle o).grown hg (by simp; omega) (fun k hk => by cases hk)
  · have := hg.size; simp at this; omega
end Go.Proofs.YtmmohhaolgblkaaDoor

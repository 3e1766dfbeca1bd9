/- Terms of one node. -/
import Derived.Test.YthefknoicelhaaaGreatDoorFUJ
import Derived.Laws.Rows
import Derived.Laws.ResultCell
import Derived.Test.YthefknoicelhaaaGreatDoorFUS
import Derived.Test.YthefknoicelhaaaGreatDoorFShelf
namespace Go.Proofs.YthefknoicelhaaaGreatDoor.Se
open Go.RowKit Nmx

/-- a term of one node that lies in a block of its own -/
def OneN (x : Nd) (w : World) (e : Ending) (w' : World) : Prop :=
  e = .returned (.slice (some ⟨w.heap.size, 0, none⟩) 1 1) ∧ w'.heap[w.heap.size]? = some (.cells #[.int .i64 x.op, .int .i64 x.sort, .string x.name, .string x.num, .int .i64 x.kids] 51 (0, 0)) ∧ Below w.heap.size w w'
theorem OneN.new (x : Nd) (w : World) : OneN x w (.returned (.slice (some ⟨w.heap.size, 0, none⟩) 1 1)) (w.alloc (.cells #[.int .i64 x.op, .int .i64 x.sort, .string x.name, .string x.num, .int .i64 x.kids] 51)) :=
  ⟨rfl, heap_alloc_new w _, (Below.refl _ _).alloc (Nat.le_refl _) _⟩




end Go.Proofs.YthefknoicelhaaaGreatDoor.Se
/- leaf. -/
namespace Go.Proofs.YthefknoicelhaaaGreatDoor.Se
open Go.RowKit Nmx
/-- the sort of a leaf -/
def lsF (op sort : Int) : Int := if op = 3 ∨ op = 4 then sort else 1
section
set_option maxHeartbeats 4000000
set_option maxRecDepth 100000
theorem treeSortOf_leaf (op sort : Int) (g n cap : Nat) (w : World) (hop : op = 1 ∨ op = 2 ∨ op = 3 ∨ op = 4) (hn : 0 < n) (c0 : w.cell? ⟨g, 0, none⟩ = some (.int .i64 op)) (c1 : w.cell? ⟨g, 1, none⟩ = some (.int .i64 sort)) :
    Calls Tryz.prog 71 #[.slice (some ⟨g, 0, none⟩) n cap] w fun e w' => e = .returned (.int .i64 (lsF op sort)) ∧ w' = w := by
  rcases hop with rfl | rfl | rfl | rfl
  all_goals
    go_enter Tryz.func71, Tryz.ntmps71
    go_wp2
    go_ret
    exact ⟨rfl, rfl⟩

end
end Go.Proofs.YthefknoicelhaaaGreatDoor.Se
/- operatorNode at the operators of the sanity check. -/
namespace Go.Proofs.YthefknoicelhaaaGreatDoor.Se
open Go.RowKit Nmx
end Go.Proofs.YthefknoicelhaaaGreatDoor.Se
/- What a reader hands back; symbols. -/
namespace Go.Proofs.YthefknoicelhaaaGreatDoor.Se
open Go.RowKit Nmx

/-- a term of one node in a block -/
theorem one_nodes {w : World} {g : Nat} {x : Nd} (h : w.heap[g]? = some (.cells #[.int .i64 x.op, .int .i64 x.sort, .string x.name, .string x.num, .int .i64 x.kids] 51 (0, 0))) : NodesAt w g [x] := by
  intro i y hy j hj
  cases i with
  | succ i => cases hy
  | zero =>
    obtain rfl := Option.some.inj hy
    rw [Nat.zero_mul, Nat.zero_add, heap_cell h j]
    simp [Nd.cells]
end Go.Proofs.YthefknoicelhaaaGreatDoor.Se
/- read at a numeral and at a symbol. -/
namespace Go.Proofs.YthefknoicelhaaaGreatDoor.Se
open Go.RowKit Nmx
end Go.Proofs.YthefknoicelhaaaGreatDoor.Se
/- tree.Node. -/
namespace Go.Proofs.YthefknoicelhaaaGreatDoor.Se
open Go.RowKit Nmx
theorem infoNode : (Tryz.prog.info? 51).map (fun i => (i.zero, i.size, i.bytes)) = some (some (.agg #[.int .i64 0, .int .i64 0, .string ⟨#[]⟩, .string ⟨#[]⟩, .int .i64 0]), 5, 56) := by kernel_rfl
theorem add_at (g q : Nat) : (⟨g, 0, none⟩ : Addr).add q = ⟨g, q, none⟩ := by
  unfold Addr.add
  split
  · rename_i h; rw [h]
  · rw [Nat.zero_add]
theorem flatN_get : ∀ (ts : List Nd) (i j : Nat), j < 5 → (flatN ts)[i * 5 + j]? = ts[i]?.bind fun x => x.cells[j]? := by
  intro ts
  induction ts with
  | nil => intro i j _; simp [flatN]
  | cons x ts ih =>
    intro i j hj
    have e : flatN (x :: ts) = x.cells ++ flatN ts := by simp [flatN]
    have hl : x.cells.length = 5 := rfl
    rw [e]
    cases i with
    | zero => rw [List.getElem?_append_left (by omega)]; simp
    | succ i =>
      rw [List.getElem?_append_right (by omega), hl, show (i + 1) * 5 + j - 5 = i * 5 + j by omega, ih i j hj]
      simp
theorem flatN_len : ∀ ts : List Nd, (flatN ts).length = ts.length * 5 := by
  intro ts
  induction ts with
  | nil => rfl
  | cons x ts ih =>
    have e : flatN (x :: ts) = x.cells ++ flatN ts := by simp [flatN]
    have hl : x.cells.length = 5 := rfl
    rw [e, List.length_append, ih, hl, List.length_cons]; omega
theorem flatN_app (a b : List Nd) : flatN (a ++ b) = flatN a ++ flatN b := by simp [flatN]
theorem nodes_flat {w : World} {g : Nat} {ts : List Nd} (h : NodesAt w g ts) (j : Nat) (u : Value) (hj : (flatN ts)[j]? = some u) : w.cell? ⟨g, j, none⟩ = some u := by
  have e : j = j / 5 * 5 + j % 5 := by omega
  rw [e, flatN_get _ _ _ (by omega)] at hj
  obtain ⟨x, hx, hu⟩ := Option.bind_eq_some_iff.1 hj
  have := h _ x hx (j % 5) (by omega)
  rw [← e] at this
  rw [this]; exact hu
theorem flat_nodes {w : World} {g : Nat} {ts : List Nd} (h : ∀ j, j < ts.length * 5 → w.cell? ⟨g, j, none⟩ = (flatN ts)[j]?) : NodesAt w g ts := by
  intro i x hx j hj
  have hl : i < ts.length := (List.getElem?_eq_some_iff.1 hx).1
  rw [h (i * 5 + j) (by omega), flatN_get _ _ _ hj, hx]; rfl
theorem nd_one (ts : List Nd) : ∀ u ∈ flatN ts, u.oneCell' = true := by
  intro u hu
  obtain ⟨x, -, hx⟩ := List.mem_flatMap.1 hu
  simp only [Nd.cells, List.mem_cons, List.not_mem_nil, or_false] at hx
  rcases hx with rfl | rfl | rfl | rfl | rfl <;> rfl
/-- what every world of the walk keeps -/
structure NDB (S : Nat) (w : World) (x : Nd) (n : Int) (W : World) : Prop where
  bx : W.heap[S]? = some (.cells #[.int .i64 x.op, .int .i64 x.sort, .string x.name, .string x.num, .int .i64 n] 51 (0, 0))
  bel : Below S w W
theorem NDB.far {S : Nat} {w : World} {x : Nd} {n : Int} {W W' : World} (h : NDB S w x n W) (hb : Below W.heap.size W W') : NDB S w x n W' :=
  ⟨(hb.block _ (lt_of_heap h.bx)).trans h.bx, h.bel.trans (hb.mono (Nat.le_of_lt (lt_of_heap h.bx)))⟩
theorem NDB.grow {S : Nat} {w : World} {x : Nd} {n : Int} {W W' : World} {b : Option Nat} (h : NDB S w x n W) (hg : W.grownBy W' b) (hb : ∀ k, b = some k → S < k) : NDB S w x n W' :=
  ⟨(hg.block _ (lt_of_heap h.bx) (fun e => by have := hb S e.symm; omega)).trans h.bx, h.bel.grown hg (Nat.le_of_lt (lt_of_heap h.bx)) (fun k e => by have := hb k e; omega)⟩
/-- a slice of terms: where each lies -/
def Kds (w : World) (ak : Option Addr) (gk : Nat) (L : List (List Nd)) : Prop :=
  (L.length ≠ 0 → ak = some ⟨gk, 0, none⟩) ∧ gk < w.heap.size ∧ ∀ j t, L[j]? = some t → ∃ g c, w.cell? ⟨gk, j, none⟩ = some (.slice (some ⟨g, 0, none⟩) t.length c) ∧ NodesAt w g t ∧ g < w.heap.size
theorem Kds.far {w w' : World} {ak : Option Addr} {gk : Nat} {L : List (List Nd)} (h : Kds w ak gk L) (hb : Below w.heap.size w w') : Kds w' ak gk L :=
  ⟨h.1, Nat.lt_of_lt_of_le h.2.1 hb.size, fun j t ht => let ⟨g, c, h1, h2, h3⟩ := h.2.2 j t ht; ⟨g, c, (hb.cell (p := ⟨gk, j, none⟩) h.2.1).trans h1, h2.below hb h3, Nat.lt_of_lt_of_le h3 hb.size⟩⟩
theorem take_flat {L : List (List Nd)} {j : Nat} (h : j < L.length) : (L.take (j + 1)).flatten = (L.take j).flatten ++ L[j] := by
  rw [List.take_add_one, List.getElem?_eq_getElem h, List.flatten_append]; simp
end Go.Proofs.YthefknoicelhaaaGreatDoor.Se
/- (*reader).node: boxes and rows. -/
namespace Go.Proofs.YthefknoicelhaaaGreatDoor.Se
open Go.RowKit Nmx
theorem take_one {α : Type} {L : List α} {j : Nat} (h : j < L.length) : L.take (j + 1) = L.take j ++ [L[j]] := by
  rw [List.take_add_one, List.getElem?_eq_getElem h]; rfl
end Go.Proofs.YthefknoicelhaaaGreatDoor.Se
/- (*reader).node. -/
namespace Go.Proofs.YthefknoicelhaaaGreatDoor.Se
open Go.RowKit Nmx


end Go.Proofs.YthefknoicelhaaaGreatDoor.Se
/- fail; a product of two terms that are no numbers. -/
namespace Go.Proofs.YthefknoicelhaaaGreatDoor.Se
open Go.RowKit Nmx
end Go.Proofs.YthefknoicelhaaaGreatDoor.Se
/- (*reader).list: the row of the operands' terms. -/
namespace Go.Proofs.YthefknoicelhaaaGreatDoor.Se
open Go.RowKit Nmx

end Go.Proofs.YthefknoicelhaaaGreatDoor.Se
/- (*reader).list at an operator. -/
namespace Go.Proofs.YthefknoicelhaaaGreatDoor.Se
open Go.RowKit Nmx
end Go.Proofs.YthefknoicelhaaaGreatDoor.Se
/- (*reader).declare at variables alone. -/
namespace Go.Proofs.YthefknoicelhaaaGreatDoor.Se
open Go.RowKit Nmx
/-- a slice of variables -/
def VarsAt (w : World) (g : Nat) (l : List (ByteArray × Int)) : Prop := ∀ j p, l[j]? = some p → w.cell? ⟨g, j * 2, none⟩ = some (.string p.1) ∧ w.cell? ⟨g, j * 2 + 1, none⟩ = some (.int .i64 p.2)
theorem grown_trans {w w1 w2 : World} {V : Nat} (h1 : w.grownBy w1 (some V)) (h2 : w1.grownBy w2 (some V)) : w.grownBy w2 (some V) :=
  ⟨h2.os.trans h1.os, h2.tape.trans h1.tape, h2.output.trans h1.output, Nat.le_trans h1.size h2.size, fun k hk hne => (h2.block k (Nat.lt_of_lt_of_le hk h1.size) hne).trans (h1.block k hk hne)⟩
end Go.Proofs.YthefknoicelhaaaGreatDoor.Se
/- Clone of a term. -/
namespace Go.Proofs.YthefknoicelhaaaGreatDoor.Se
open Go.RowKit Nmx
end Go.Proofs.YthefknoicelhaaaGreatDoor.Se
/- Read at item 0, with variables alone. -/
namespace Go.Proofs.YthefknoicelhaaaGreatDoor.Se
open Go.RowKit Nmx


end Go.Proofs.YthefknoicelhaaaGreatDoor.Se
/- The two texts of the sanity check, as items. -/
namespace Go.Proofs.YthefknoicelhaaaGreatDoor.Se
open Go.RowKit Nmx
end Go.Proofs.YthefknoicelhaaaGreatDoor.Se
/- Parse with variables alone. -/
namespace Go.Proofs.YthefknoicelhaaaGreatDoor.Se
open Go.RowKit Nmx

end Go.Proofs.YthefknoicelhaaaGreatDoor.Se
/- The readings of the sanity check. -/
namespace Go.Proofs.YthefknoicelhaaaGreatDoor.Se
open Go.RowKit Nmx
end Go.Proofs.YthefknoicelhaaaGreatDoor.Se
/- read hands on a failure; the two readings. -/
namespace Go.Proofs.YthefknoicelhaaaGreatDoor.Se
open Go.RowKit Nmx
end Go.Proofs.YthefknoicelhaaaGreatDoor.Se
/- WriteString; Format of a number. -/
namespace Go.Proofs.YthefknoicelhaaaGreatDoor.Se
open Go.RowKit Nmx
end Go.Proofs.YthefknoicelhaaaGreatDoor.Se
/- check without functions; Format of a number; the sanity check. -/
namespace Go.Proofs.YthefknoicelhaaaGreatDoor.Se
open Go.RowKit Nmx
section
set_option maxHeartbeats 2000000
set_option maxRecDepth 100000
theorem chk_vars (g cap : Nat) (ts : List Nd) (w : World) (hl : ts.length ≤ 20000) (hg : g < w.heap.size) (hc : NodesAt w g ts) (hsm : ∀ x ∈ ts, x.num.size ≤ 1000) (hEn : Env w) (hno : ∀ x ∈ ts, ¬ x.op = 5) :
    Calls Tryz.prog 54 #[.slice (some ⟨g, 0, none⟩) ts.length cap] w (ChkPost (naF ts) ts w) :=
  chk_any (naF ts) (some ⟨g, 0, none⟩) g cap ts w (fun _ => rfl) hg hc hsm hEn fun W E Ss ge gs ce cs hN hgW _ _ _ _ _ _ => namesAgree_vars (some ⟨g, 0, none⟩) (some ⟨ge, 0, none⟩) (some ⟨gs, 0, none⟩) g cap ts.length ce ts.length cs ts E Ss W (fun _ => rfl) hgW hN hl hno

end
end Go.Proofs.YthefknoicelhaaaGreatDoor.Se

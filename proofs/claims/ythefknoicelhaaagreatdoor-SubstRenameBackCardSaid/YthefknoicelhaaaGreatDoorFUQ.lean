/- A map with strings for keys, as a list of names and values: laws for the walk. -/
import Derived.Test.YthefknoicelhaaaGreatDoorFNV
import Derived.Maps.OwnOps
namespace Go.Proofs.YthefknoicelhaaaGreatDoor
open Go.RowKit Nmx
open Go.MapKept

/-- block B is a map that holds these names, in this order, with these values -/
def MapS (w : World) (B : Nat) (kvs : List (ByteArray × Value)) : Prop := ∃ es clock, w.heap[B]? = some (.map es clock) ∧ es.toList.map (fun e => (e.key, e.val)) = kvs.map (fun p => (Value.string p.1, p.2))
/-- where a name stands, and its value -/
def findS (k : ByteArray) : List (ByteArray × Value) → Nat → Option (Nat × Value)
  | [], _ => none
  | p :: l, i => if k = p.1 then some (i, p.2) else findS k l (i + 1)
theorem findNow_str (k : ByteArray) : ∀ (l : List MapEntry) (kvs : List (ByteArray × Value)) (i : Nat), l.map (fun e => (e.key, e.val)) = kvs.map (fun p => (Value.string p.1, p.2)) → Instr.findNow .string (.string k) l i = some (findS k kvs i)
  | [], [], _, _ => rfl
  | [], _ :: _, _, h => by cases h
  | _ :: _, [], _, h => by cases h
  | e :: l, p :: kvs, i, h => by
    injection h with h1 h2
    injection h1 with h3 h4
    unfold Instr.findNow findS
    rw [h3, h4]
    rw [show Instr.sameNow .string (.string k) (.string p.1) = some (k == p.1) from rfl]
    by_cases hk : k = p.1
    · rw [if_pos hk, (bytes_beq k p.1).2 hk]
    · rw [if_neg hk, show (k == p.1) = false from Bool.eq_false_iff.2 fun h => hk ((bytes_beq k p.1).1 h)]
      exact findNow_str k l kvs (i + 1) h2
theorem MapS.far {w w' : World} {B : Nat} {kvs : List (ByteArray × Value)} (h : MapS w B kvs) (hb : Below w.heap.size w w') : MapS w' B kvs :=
  let ⟨es, c, h1, h2⟩ := h; ⟨es, c, (hb.block _ (lt_of_heap h1)).trans h1, h2⟩
theorem MapS.but {w w' : World} {B : Nat} {kvs : List (ByteArray × Value)} (h : MapS w B kvs) (ho : w'.heap[B]? = w.heap[B]?) : MapS w' B kvs :=
  let ⟨es, c, h1, h2⟩ := h; ⟨es, c, ho.trans h1, h2⟩
theorem MapS.lt {w : World} {B : Nat} {kvs : List (ByteArray × Value)} (h : MapS w B kvs) : B < w.heap.size :=
  let ⟨_, _, h1, _⟩ := h; lt_of_heap h1
theorem run_makeMapN {P : Program} {t k e : TypeId} (ht : P.underlying t = some (.map k e)) (q : IntKind) (n : Int) (w : World) : (Instr.makeMap t (some (.int q n))).run P w = .ok (.map (some w.heap.size)) (w.alloc (.map #[] 0)) := by
  simp [Instr.makeMap, run_underlying ht, asInt, Result.andThen]
  rfl
theorem MapS.made (w : World) : MapS (w.alloc (.map #[] 0)) w.heap.size [] := ⟨#[], 0, heap_alloc_new w _, rfl⟩
section
variable {P : Program} {k e t : TypeId} (hk : P.underlying k = some .string) (ht : P.underlying t = some (.map k e)) {w : World} {B : Nat} {kvs : List (ByteArray × Value)} (h : MapS w B kvs)
include hk ht h
theorem run_look_hit {s : ByteArray} {j : Nat} {v : Value} (hf : findS s kvs 0 = some (j, v)) : (Instr.lookup t (.map (some B)) (.string s) true).run P w = .ok (.tuple #[v, .bool true]) w := by
  obtain ⟨es, c, h1, h2⟩ := h
  have hn := findNow_str s es.toList kvs 0 h2
  rw [hf] at hn
  simp [Instr.lookup, run_underlying ht, Go.run_getObj_map _ _ _ _ h1, run_checkKey hk (k := .string s) trivial, run_findKey hk hn, Result.andThen]
theorem run_look_miss {s : ByteArray} {z : Value} (hf : findS s kvs 0 = none) (hz : (zeroValue e).run P w = .ok z w) : (Instr.lookup t (.map (some B)) (.string s) true).run P w = .ok (.tuple #[z, .bool false]) w := by
  obtain ⟨es, c, h1, h2⟩ := h
  have hn := findNow_str s es.toList kvs 0 h2
  rw [hf] at hn
  simp [Instr.lookup, run_underlying ht, Go.run_getObj_map _ _ _ _ h1, run_checkKey hk (k := .string s) trivial, run_findKey hk hn, Result.andThen, hz]
theorem run_put_miss {s : ByteArray} {v : Value} (hf : findS s kvs 0 = none) : ∃ w', (Instr.mapUpdate t (.map (some B)) (.string s) v).run P w = .ok () w' ∧ MapS w' B (kvs ++ [(s, v)]) ∧ w.grownBy w' (some B) := by
  obtain ⟨es, c, h1, h2⟩ := h
  have hn := findNow_str s es.toList kvs 0 h2
  rw [hf] at hn
  obtain ⟨s1, s2⟩ := Go.MapKept.heap_set (o' := .map (es.push { key := .string s, val := v, born := c }) (c + 1)) h1
  refine ⟨{ w with heap := w.heap.setIfInBounds B (.map (es.push { key := .string s, val := v, born := c }) (c + 1)) }, by simp [Instr.mapUpdate, run_underlying ht, Go.run_getObj_map _ _ _ _ h1, run_checkKey hk (k := .string s) trivial, run_findKey hk hn, run_setObj_map _ h1, Result.andThen], ⟨_, _, s1, ?_⟩, ⟨rfl, rfl, rfl, by simp, fun g hg hne => s2 g fun e => hne (by rw [e])⟩⟩
  simp [h2]
end
section
variable {P : Program} {w : World} {ops : Array Oper} {rest : List Oper} {o : Oper} {a : Act} {Q : Exit → Act → World → Prop} (hg : o.guard = none) (k e t : TypeId)
include hg
theorem wpList_look_hit (x i : Operand) (hop : o.op = Op.lookup t x i true) (hk : P.underlying k = some .string) (ht : P.underlying t = some (.map k e)) (B : Nat) (kvs : List (ByteArray × Value)) (hm : a.eval x = .map (some B)) (h : MapS w B kvs) (s : ByteArray) (hs : a.eval i = .string s) (j : Nat) (v : Value) (hf : findS s kvs 0 = some (j, v))
    (hK : wpList P ops Q rest (a.put o.dst (.tuple #[v, .bool true])) w) : wpList P ops Q (o :: rest) a w := by
  refine wpList_plain hg fun K' hK' => ?_
  have hrun := run_look_hit hk ht h hf
  unfold Oper.wp
  simp [execOp, hop, hm, hs, hrun, Result.andThen]
  exact hK' _ _ hK
theorem wpList_look_miss (x i : Operand) (hop : o.op = Op.lookup t x i true) (hk : P.underlying k = some .string) (ht : P.underlying t = some (.map k e)) (B : Nat) (kvs : List (ByteArray × Value)) (hm : a.eval x = .map (some B)) (h : MapS w B kvs) (s : ByteArray) (hs : a.eval i = .string s) (z : Value) (hf : findS s kvs 0 = none) (hz : (zeroValue e).run P w = .ok z w)
    (hK : wpList P ops Q rest (a.put o.dst (.tuple #[z, .bool false])) w) : wpList P ops Q (o :: rest) a w := by
  refine wpList_plain hg fun K' hK' => ?_
  have hrun := run_look_miss hk ht h hf hz
  unfold Oper.wp
  simp [execOp, hop, hm, hs, hrun, Result.andThen]
  exact hK' _ _ hK
end
end Go.Proofs.YthefknoicelhaaaGreatDoor
/- A map with strings for keys: a put, whether the key is there or not. -/
namespace Go.Proofs.YthefknoicelhaaaGreatDoor
open Go.RowKit Nmx
open Go.MapKept
/-- the list of names and values behind a put -/
def putS (s : ByteArray) (u : Value) : List (ByteArray × Value) → List (ByteArray × Value)
  | [] => [(s, u)]
  | p :: l => if s = p.1 then (s, u) :: l else p :: putS s u l
theorem putS_none {k : ByteArray} (v : Value) : ∀ {l : List (ByteArray × Value)} {i : Nat}, findS k l i = none → putS k v l = l ++ [(k, v)] := by
  intro l
  induction l with
  | nil => intro i _; rfl
  | cons p l ih =>
    intro i h
    unfold findS at h
    unfold putS
    by_cases hk : k = p.1
    · rw [if_pos hk] at h; cases h
    · rw [if_neg hk] at h ⊢; rw [ih h]; rfl
theorem putS_some {k : ByteArray} (v : Value) : ∀ {l : List (ByteArray × Value)} {i j : Nat} {u : Value}, findS k l i = some (j, u) → i ≤ j ∧ l[j - i]? = some (k, u) ∧ putS k v l = l.set (j - i) (k, v) := by
  intro l
  induction l with
  | nil => intro i j u h; cases h
  | cons p l ih =>
    intro i j u h
    unfold findS at h
    unfold putS
    by_cases hk : k = p.1
    · rw [if_pos hk] at h ⊢
      obtain ⟨rfl, rfl⟩ := Prod.mk.inj (Option.some.inj h)
      refine ⟨Nat.le_refl _, ?_, ?_⟩
      · rw [Nat.sub_self, hk]; rfl
      · rw [Nat.sub_self]; rfl
    · rw [if_neg hk] at h ⊢
      obtain ⟨h1, h2, h3⟩ := ih h
      obtain ⟨d, hd⟩ : ∃ d, j - i = d + 1 := ⟨j - i - 1, by omega⟩
      have hd' : j - (i + 1) = d := by omega
      rw [hd'] at h2 h3
      rw [hd, h3]
      exact ⟨by omega, h2, rfl⟩
theorem run_put_any {P : Program} {k e t : TypeId} (hk : P.underlying k = some .string) (ht : P.underlying t = some (.map k e)) {w : World} {B : Nat} {kvs : List (ByteArray × Value)} (h : MapS w B kvs) (s : ByteArray) (v : Value) :
    ∃ w', (Instr.mapUpdate t (.map (some B)) (.string s) v).run P w = .ok () w' ∧ MapS w' B (putS s v kvs) ∧ w.grownBy w' (some B) := by
  cases hf : findS s kvs 0 with
  | none => rw [putS_none v hf]; exact run_put_miss hk ht h hf
  | some x =>
    obtain ⟨j, u⟩ := x
    obtain ⟨-, g2, g3⟩ := putS_some v hf
    rw [Nat.sub_zero] at g2 g3
    rw [g3]
    obtain ⟨es, c, h1, h2⟩ := h
    have hn := findNow_str s es.toList kvs 0 h2
    rw [hf] at hn
    have hj : (es.toList.map (fun e => (e.key, e.val)))[j]? = some (.string s, u) := by rw [h2, List.getElem?_map, g2]; rfl
    rw [List.getElem?_map] at hj
    obtain ⟨x, hx, hxe⟩ := Option.map_eq_some_iff.1 hj
    have hkey : x.key = .string s := congrArg Prod.fst hxe
    have hgd : ((es[j]?).map (·.key)).getD (.string s) = .string s := by
      rw [← Array.getElem?_toList, hx]; exact hkey
    have hkt : (Instr.keyThatStays (.string s) (.string s)).run P w = .ok (.string s) w := by
      unfold Instr.keyThatStays
      rw [show Instr.sameBits 10000 (.string s) (.string s) = (s == s) from rfl, (bytes_beq s s).2 rfl]
      rfl
    obtain ⟨s1, s2⟩ := Go.MapKept.heap_set (o' := .map (es.modify j fun e => { e with key := .string s, val := v }) c) h1
    refine ⟨{ w with heap := w.heap.setIfInBounds B (.map (es.modify j fun e => { e with key := .string s, val := v }) c) }, by simp [Instr.mapUpdate, run_underlying ht, Go.run_getObj_map _ _ _ _ h1, run_checkKey hk (k := .string s) trivial, run_findKey hk hn, hgd, hkt, run_setObj_map _ h1, Result.andThen], ⟨_, _, s1, ?_⟩, ⟨rfl, rfl, rfl, by simp, fun g hg hne => s2 g fun e => hne (by rw [e])⟩⟩
    rw [Array.toList_modify, List.map_set, ← h2]
    apply List.ext_getElem?
    intro n
    rw [List.getElem?_map, List.getElem?_modify, List.getElem?_set, List.getElem?_map]
    by_cases hnj : j = n
    · subst hnj
      obtain ⟨hl, _⟩ := List.getElem?_eq_some_iff.1 hx
      have hl2 : j < es.size := by simpa using hl
      simp [hl2]
    · simp [hnj]
theorem wpList_put_any {P : Program} {w : World} {ops : Array Oper} {rest : List Oper} {o : Oper} {a : Act} {Q : Exit → Act → World → Prop} (hg : o.guard = none) (k e t : TypeId)
    (m x v : Operand) (hop : o.op = Op.mapUpdate t m x v) (hk : P.underlying k = some .string) (ht : P.underlying t = some (.map k e)) (B : Nat) (kvs : List (ByteArray × Value)) (hm : a.eval m = .map (some B)) (h : MapS w B kvs) (s : ByteArray) (hs : a.eval x = .string s) (u : Value) (hu : a.eval v = u)
    (hK : ∀ w', MapS w' B (putS s u kvs) → w.grownBy w' (some B) → wpList P ops Q rest (a.put o.dst undef) w') : wpList P ops Q (o :: rest) a w := by
  refine wpList_plain hg fun K' hK' => ?_
  obtain ⟨w', hrun, r1, r2⟩ := run_put_any hk ht h s u
  unfold Oper.wp
  simp [execOp, hop, hm, hs, hu, hrun, Result.andThen]
  exact hK' _ _ (hK w' r1 r2)
end Go.Proofs.YthefknoicelhaaaGreatDoor

/- Environments are drawn: (*Choices).Num, LinearEnv. -/
import Derived.Test.YteoklapcifonaaaGreatDoorWMC
import Derived.Test.YteoklapcifonaaaGreatDoorWLU
import Derived.Maps.OwnOps
namespace Go.Proofs.YteoklapcifonaaaGreatDoor
open Go.RowKit Nmx

/-- a number of a sort is drawn -/
def NumOk (s : Int) (q : Rat) : Prop := DS 26 q ∧ (s = 2 → q.den = 1)
/-- the cells of the bindings of a list of names and numbers -/
def flatB (s : Int) : List (List UInt8 × Rat) → List Value
  | [] => []
  | x :: l => .string ⟨x.1.toArray⟩ :: .int .i64 s :: .bool false :: .string (TX x.2) :: .slice none 0 0 :: .slice none 0 0 :: flatB s l
theorem flatB_append (s : Int) (a b : List (List UInt8 × Rat)) : flatB s (a ++ b) = flatB s a ++ flatB s b := by
  induction a with
  | nil => rfl
  | cons x a ih => rw [List.cons_append, flatB, ih]; rfl
theorem flatB_length (s : Int) (a : List (List UInt8 × Rat)) : (flatB s a).length = a.length * 6 := by
  induction a with
  | nil => rfl
  | cons x a ih => rw [flatB]; simp only [List.length_cons, ih]; omega
/-- a slice of bindings -/
structure BSl (w : World) (ao : Option Addr) (g off cap : Nat) (s : Int) (es : List (List UInt8 × Rat)) : Prop where
  le : es.length ≤ cap
  most : cap ≤ 9223372036854775807
  ad : 0 < cap → ao = some ⟨g, off, none⟩
  cl : ∀ i (h : i < es.length) (c : Nat) (v : Value), (#[.string ⟨es[i].1.toArray⟩, .int .i64 s, .bool false, .string (TX es[i].2), .slice none 0 0, .slice none 0 0] : Array Value)[c]? = some v → w.cell? ⟨g, off + i * 6 + c, none⟩ = some v
theorem BSl.far {w w' : World} {ao : Option Addr} {g off cap : Nat} {s : Int} {es : List (List UInt8 × Rat)} (h : BSl w ao g off cap s es) (hb : Below w.heap.size w w') : BSl w' ao g off cap s es :=
  ⟨h.le, h.most, h.ad, fun i hi c v hv => (hb.cell (World.block_lt_of_cell? _ _ (h.cl i hi c v hv))).trans (h.cl i hi c v hv)⟩
/-- an environment: the four names, numbers of the sort -/
structure EnvG (s : Int) (es : List (List UInt8 × Rat)) : Prop where
  nm : es.map (·.1) = nm4
  ok : ∀ x ∈ es, NumOk s x.2
def EV (w : World) (v : Value) (s : Int) (es : List (List UInt8 × Rat)) : Prop := ∃ ao g cap, v = .slice ao es.length cap ∧ BSl w ao g 0 cap s es ∧ EnvG s es
theorem EV.far {w w' : World} {v : Value} {s : Int} {es : List (List UInt8 × Rat)} (h : EV w v s es) (hb : Below w.heap.size w w') : EV w' v s es :=
  let ⟨ao, g, cap, h1, h2, h3⟩ := h; ⟨ao, g, cap, h1, h2.far hb, h3⟩
theorem flatB_get (s : Int) (es : List (List UInt8 × Rat)) : ∀ i (h : i < es.length) (c : Nat) (v : Value), (#[.string ⟨es[i].1.toArray⟩, .int .i64 s, .bool false, .string (TX es[i].2), .slice none 0 0, .slice none 0 0] : Array Value)[c]? = some v → (flatB s es)[i * 6 + c]? = some v := by
  induction es with
  | nil => exact fun i h => absurd h (Nat.not_lt_zero i)
  | cons x es ih =>
    intro i h c v hv;cases i with
    | zero =>
      rw [Nat.zero_mul, Nat.zero_add];have hc : c < 6 := by simpa using (Array.getElem?_eq_some_iff.1 hv).1
      match c, hc with
      | 0, _ => exact hv
      | 1, _ => exact hv
      | 2, _ => exact hv
      | 3, _ => exact hv
      | 4, _ => exact hv
      | 5, _ => exact hv
    | succ i =>
      rw [show (i + 1) * 6 + c = i * 6 + c + 6 by omega];exact ih i (by simpa using h) c v hv
theorem bsl_of_row {w : World} {base : Nat} {e : TypeId} {v : Value} {s : Int} {es : List (List UInt8 × Rat)} (h : w.ownsRow base e 6 v es.length (flatB s es)) :
    ∃ ao g cap, v = .slice ao es.length cap ∧ BSl w ao g 0 cap s es := by
  rcases h.2 with ⟨rfl, hn⟩ | ⟨g, cap, cur, hv, hb, hg, hn, hc, hs, htake⟩
  · have : es = [] := List.length_eq_zero_iff.1 hn;subst this;exact ⟨none, 0, 0, rfl, Nat.le_refl _, Nat.zero_le _, fun h => absurd h (Nat.lt_irrefl _), fun i h => absurd h (Nat.not_lt_zero i)⟩
  · refine ⟨some ⟨g, 0, none⟩, g, cap, hv, hn, hc, fun _ => rfl, fun i hi c u hu => ?_⟩;have := h.cells (g := g) (by rw [hv]; rfl) (i * 6 + c) _ (flatB_get s es i hi c u hu);rw [show (⟨g, 0, none⟩ : Addr).add (i * 6 + c) = ⟨g, i * 6 + c, none⟩ by unfold Addr.add; split <;> simp_all] at this;rw [Nat.zero_add];exact this
/-- what an operation of the region may do: the choices go on -/
def ChR (C : Nat) (ao : Option Addr) (n cap : Nat) (w w' : World) : Prop := w.grownBy w' (some C) ∧ (Ch C ao n cap w → Ch C ao n cap w')
theorem chOk (C : Nat) (ao : Option Addr) (n cap : Nat) : RelOk (ChR C ao n cap) := ⟨fun _ => ⟨grown_refl _ _, id⟩, fun _ _ h => h.1.size⟩
/-- between two rounds -/
structure GE (w wr : World) (C : Nat) (ao : Option Addr) (n cap : Nat) (s : Int) (M : Nat) (v : Value) (r : List (List UInt8 × Rat)) : Prop where
  ch : Ch C ao n cap wr
  hm : wr.heap[M]? = some (.cells #[.string ⟨#[117]⟩, .string ⟨#[118]⟩, .string ⟨#[120]⟩, .string ⟨#[121]⟩] 9 (0, 0))
  row : wr.ownsRow (M + 1) 65 6 v r.length (flatB s r)
  l1 : C < w.heap.size
  l2 : w.heap.size ≤ M
  gr : w.grownBy wr (some C)
section
variable {w wr w' : World} {C : Nat} {ao : Option Addr} {n cap : Nat} {s : Int} {M : Nat} {v v' : Value} {r : List (List UInt8 × Rat)}
theorem GE.call (h : GE w wr C ao n cap s M v r) (hr : ChR C ao n cap wr w') : GE w w' C ao n cap s M v r := by
  have h1 := h.l1;have h2 := h.l2;have hb : ∀ g, g ≠ C → g < wr.heap.size → w'.heap[g]? = wr.heap[g]? := fun g hne hl => hr.1.block g hl (fun e => hne (Option.some.inj e))
  exact ⟨hr.2 h.ch, (hb _ (by omega) (lt_of_heap h.hm)).trans h.hm, row_same h.row fun g e => hb g (by have := (h.row.lt g e).1; omega) (h.row.lt g e).2, h1, h2, grown_trans h.gr hr.1⟩
theorem GE.grow {x : List UInt8 × Rat} (h : GE w wr C ao n cap s M v r) (hg : wr.grownBy w' v.ownBlock) (hr : w'.ownsRow (M + 1) 65 6 v' (r.length + 1) (flatB s r ++ [.string ⟨x.1.toArray⟩, .int .i64 s, .bool false, .string (TX x.2), .slice none 0 0, .slice none 0 0])) : GE w w' C ao n cap s M v' (r ++ [x]) := by
  have h1 := h.l1;have h2 := h.l2;have hb : ∀ g, g ≤ M → g < wr.heap.size → w'.heap[g]? = wr.heap[g]? := fun g hne hl => hg.block g hl fun e => by have := (h.row.lt g e.symm).1; omega
  refine ⟨h.ch.grown hg (fun k e => by have := (h.row.lt k e).1; omega), (hb _ (Nat.le_refl _) (lt_of_heap h.hm)).trans h.hm, ?_, h1, h2, growL h.gr hg fun k e => ?_⟩
  · rw [List.length_append, flatB_append];exact hr
  · have := (h.row.lt k e).1; omega
end
theorem nm4_get : ∀ i : Nat, i < 4 → ∃ nm : List UInt8, (#[.string ⟨#[117]⟩, .string ⟨#[118]⟩, .string ⟨#[120]⟩, .string ⟨#[121]⟩] : Array Value)[i]? = some (.string ⟨nm.toArray⟩) ∧ nm4.take (i + 1) = nm4.take i ++ [nm]
  | 0, _ => ⟨[117], rfl, rfl⟩
  | 1, _ => ⟨[118], rfl, rfl⟩
  | 2, _ => ⟨[120], rfl, rfl⟩
  | 3, _ => ⟨[121], rfl, rfl⟩
  | n + 4, h => absurd h (by omega)
section
set_option maxRecDepth 100000
set_option maxHeartbeats 8000000
theorem infoBind : (Tryz.prog.info? 65).map (fun i => (i.zero, i.size, i.bytes)) = some (some (.agg #[.string ⟨#[]⟩, .int .i64 0, .bool false, .string ⟨#[]⟩, .slice none 0 0, .slice none 0 0]), 6, 96) := by kernel_rfl
theorem num_any (C : Nat) (ao : Option Addr) (n cap : Nat) (s : Int) (w : World) (h : Ch C ao n cap w) : Calls Tryz.prog 87 #[.pointer (some ⟨C, 0, none⟩), .int .i64 s] w fun e w' => ∃ q, NumOk s q ∧ e = .returned (.string (TX q)) ∧ Ch C ao n cap w' ∧ w.grownBy w' (some C) := by
  have hi := integer_any C ao n cap w h;have hn := number_any C ao n cap w h;clear h
  by_cases hs : s = 2
  · subst hs;clear hn
    go_enter Tryz.func87, Tryz.ntmps87
    go_wp2_with fail
    refine hi.mono ?_;rintro e w1 ⟨z, hz, rfl, hc, hg⟩
    go_wp2
    go_ret
    exact ⟨(z : Rat), ⟨(DS.int (d := 26) (Nat.lt_trans hz (by decide))), fun _ => Rat.den_intCast _⟩, rfl, hc, hg⟩
  · have hb : (s == 2) = false := by rw [beq_eq_false_iff_ne]; exact hs
    have hd : decide (s = 2) = false := decide_eq_false hs;clear hi
    go_enter Tryz.func87, Tryz.ntmps87
    go_wp2_with fail
    refine hn.mono ?_;rintro e w1 ⟨q, hq, rfl, hc, hg⟩
    go_wp2
    go_ret
    exact ⟨q, ⟨hq, fun e => absurd e hs⟩, rfl, hc, hg⟩
end
end Go.Proofs.YteoklapcifonaaaGreatDoor
/- Environments are valid: value.Valid at numbers, validEnv. -/
namespace Go.Proofs.YteoklapcifonaaaGreatDoor
open Go.RowKit Nmx

end Go.Proofs.YteoklapcifonaaaGreatDoor
/- A map with strings for keys, as a list of names and values: laws for the walk. -/
namespace Go.Proofs.YteoklapcifonaaaGreatDoor
open Go.RowKit Nmx
open Go.MapKept

/-- block B is a map that holds these names, in this order, with these values -/
def MapS (w : World) (B : Nat) (kvs : List (ByteArray × Value)) : Prop := ∃ es clock, w.heap[B]? = some (.map es clock) ∧ es.toList.map (fun e => (e.key, e.val)) = kvs.map (fun p => (Value.string p.1, p.2))
/-- where a name stands, and its value -/
def findS (k : ByteArray) : List (ByteArray × Value) → Nat → Option (Nat × Value)
  | [], _ => none
  | p :: l, i => if k = p.1 then some (i, p.2) else findS k l (i + 1)
theorem findNow_str (k : ByteArray) : ∀ (l : List MapEntry) (kvs : List (ByteArray × Value)) (i : Nat), l.map (fun e => (e.key, e.val)) = kvs.map (fun p => (Value.string p.1, p.2)) → Instr.findNow .string (.string k) l i = some (findS k kvs i)
  | [], [], _, _ => rfl
  | [], _ :: _, _, h => by cases h
  | _ :: _, [], _, h => by cases h
  | e :: l, p :: kvs, i, h => by
    injection h with h1 h2;injection h1 with h3 h4;unfold Instr.findNow findS;rw [h3, h4];rw [show Instr.sameNow .string (.string k) (.string p.1) = some (k == p.1) from rfl]
    by_cases hk : k = p.1
    · rw [if_pos hk, (bytes_beq k p.1).2 hk]
    · rw [if_neg hk, show (k == p.1) = false from Bool.eq_false_iff.2 fun h => hk ((bytes_beq k p.1).1 h)];exact findNow_str k l kvs (i + 1) h2
theorem MapS.far {w w' : World} {B : Nat} {kvs : List (ByteArray × Value)} (h : MapS w B kvs) (hb : Below w.heap.size w w') : MapS w' B kvs :=
  let ⟨es, c, h1, h2⟩ := h; ⟨es, c, (hb.block _ (lt_of_heap h1)).trans h1, h2⟩
theorem MapS.but {w w' : World} {B : Nat} {kvs : List (ByteArray × Value)} (h : MapS w B kvs) (ho : w'.heap[B]? = w.heap[B]?) : MapS w' B kvs :=
  let ⟨es, c, h1, h2⟩ := h; ⟨es, c, ho.trans h1, h2⟩
theorem MapS.lt {w : World} {B : Nat} {kvs : List (ByteArray × Value)} (h : MapS w B kvs) : B < w.heap.size :=
  let ⟨_, _, h1, _⟩ := h; lt_of_heap h1
theorem run_makeMapN {P : Program} {t k e : TypeId} (ht : P.underlying t = some (.map k e)) (q : IntKind) (n : Int) (w : World) : (Instr.makeMap t (some (.int q n))).run P w = .ok (.map (some w.heap.size)) (w.alloc (.map #[] 0)) := by
  simp [Instr.makeMap, run_underlying ht, asInt, Result.andThen]
  rfl
theorem MapS.made (w : World) : MapS (w.alloc (.map #[] 0)) w.heap.size [] := ⟨#[], 0, heap_alloc_new w _, rfl⟩
section
variable {P : Program} {k e t : TypeId} (hk : P.underlying k = some .string) (ht : P.underlying t = some (.map k e)) {w : World} {B : Nat} {kvs : List (ByteArray × Value)} (h : MapS w B kvs)
include hk ht h
theorem run_look_hit {s : ByteArray} {j : Nat} {v : Value} (hf : findS s kvs 0 = some (j, v)) : (Instr.lookup t (.map (some B)) (.string s) true).run P w = .ok (.tuple #[v, .bool true]) w := by
  obtain ⟨es, c, h1, h2⟩ := h;have hn := findNow_str s es.toList kvs 0 h2;rw [hf] at hn
  simp [Instr.lookup, run_underlying ht, Go.run_getObj_map _ _ _ _ h1, run_checkKey hk (k := .string s) trivial, run_findKey hk hn, Result.andThen]
theorem run_look_miss {s : ByteArray} {z : Value} (hf : findS s kvs 0 = none) (hz : (zeroValue e).run P w = .ok z w) : (Instr.lookup t (.map (some B)) (.string s) true).run P w = .ok (.tuple #[z, .bool false]) w := by
  obtain ⟨es, c, h1, h2⟩ := h;have hn := findNow_str s es.toList kvs 0 h2;rw [hf] at hn
  simp [Instr.lookup, run_underlying ht, Go.run_getObj_map _ _ _ _ h1, run_checkKey hk (k := .string s) trivial, run_findKey hk hn, Result.andThen, hz]
theorem run_put_miss {s : ByteArray} {v : Value} (hf : findS s kvs 0 = none) : ∃ w', (Instr.mapUpdate t (.map (some B)) (.string s) v).run P w = .ok () w' ∧ MapS w' B (kvs ++ [(s, v)]) ∧ w.grownBy w' (some B) := by
  obtain ⟨es, c, h1, h2⟩ := h;have hn := findNow_str s es.toList kvs 0 h2;rw [hf] at hn;obtain ⟨s1, s2⟩ := Go.MapKept.heap_set (o' := .map (es.push { key := .string s, val := v, born := c }) (c + 1)) h1;refine ⟨{ w with heap := w.heap.setIfInBounds B (.map (es.push { key := .string s, val := v, born := c }) (c + 1)) }, by simp [Instr.mapUpdate, run_underlying ht, Go.run_getObj_map _ _ _ _ h1, run_checkKey hk (k := .string s) trivial, run_findKey hk hn, run_setObj_map _ h1, Result.andThen], ⟨_, _, s1, ?_⟩, ⟨rfl, rfl, rfl, by simp, fun g hg hne => s2 g fun e => hne (by rw [e])⟩⟩
  simp [h2]
end
section
variable {P : Program} {w : World} {ops : Array Oper} {rest : List Oper} {o : Oper} {a : Act} {Q : Exit → Act → World → Prop} (hg : o.guard = none) (k e t : TypeId)
include hg
theorem wpList_look_hit (x i : Operand) (hop : o.op = Op.lookup t x i true) (hk : P.underlying k = some .string) (ht : P.underlying t = some (.map k e)) (B : Nat) (kvs : List (ByteArray × Value)) (hm : a.eval x = .map (some B)) (h : MapS w B kvs) (s : ByteArray) (hs : a.eval i = .string s) (j : Nat) (v : Value) (hf : findS s kvs 0 = some (j, v))
    (hK : wpList P ops Q rest (a.put o.dst (.tuple #[v, .bool true])) w) : wpList P ops Q (o :: rest) a w := by
  refine wpList_plain hg fun K' hK' => ?_
  have hrun := run_look_hit hk ht h hf;unfold Oper.wp
  simp [execOp, hop, hm, hs, hrun, Result.andThen]
  exact hK' _ _ hK
theorem wpList_look_miss (x i : Operand) (hop : o.op = Op.lookup t x i true) (hk : P.underlying k = some .string) (ht : P.underlying t = some (.map k e)) (B : Nat) (kvs : List (ByteArray × Value)) (hm : a.eval x = .map (some B)) (h : MapS w B kvs) (s : ByteArray) (hs : a.eval i = .string s) (z : Value) (hf : findS s kvs 0 = none) (hz : (zeroValue e).run P w = .ok z w)
    (hK : wpList P ops Q rest (a.put o.dst (.tuple #[z, .bool false])) w) : wpList P ops Q (o :: rest) a w := by
  refine wpList_plain hg fun K' hK' => ?_
  have hrun := run_look_miss hk ht h hf hz;unfold Oper.wp
  simp [execOp, hop, hm, hs, hrun, Result.andThen]
  exact hK' _ _ hK
theorem wpList_put_miss (m x v : Operand) (hop : o.op = Op.mapUpdate t m x v) (hk : P.underlying k = some .string) (ht : P.underlying t = some (.map k e)) (B : Nat) (kvs : List (ByteArray × Value)) (hm : a.eval m = .map (some B)) (h : MapS w B kvs) (s : ByteArray) (hs : a.eval x = .string s) (u : Value) (hu : a.eval v = u) (hf : findS s kvs 0 = none)
    (hK : ∀ w', MapS w' B (kvs ++ [(s, u)]) → w.grownBy w' (some B) → wpList P ops Q rest (a.put o.dst undef) w') : wpList P ops Q (o :: rest) a w := by
  refine wpList_plain hg fun K' hK' => ?_
  obtain ⟨w', hrun, r1, r2⟩ := run_put_miss hk ht h (v := u) hf;unfold Oper.wp
  simp [execOp, hop, hm, hs, hu, hrun, Result.andThen]
  exact hK' _ _ (hK w' r1 r2)
end
end Go.Proofs.YteoklapcifonaaaGreatDoor
/- The value of an expression in an environment: eval. -/
namespace Go.Proofs.YteoklapcifonaaaGreatDoor
open Go.RowKit Nmx

/-- the value -/
def evS (p : Rat) (cs : List (List UInt8 × Rat)) (f : List UInt8 → Rat) : Rat := cs.foldl (fun a x => a + x.2 * f x.1) p
theorem bytes_inj {a b : List UInt8} (h : (⟨a.toArray⟩ : ByteArray) = ⟨b.toArray⟩) : a = b := by
  injection h with h;exact congrArg Array.toList h
section
set_option maxRecDepth 100000
set_option maxHeartbeats 8000000
theorem zeroVal (w : World) : (zeroValue 63).run Tryz.prog w = .ok (.agg #[.int .i64 0, .bool false, .string ⟨#[]⟩, .slice none 0 0, .slice none 0 0]) w := by kernel_rfl
/-- the boxes of eval: the expression, the result, the map -/
structure EB (w W : World) (s : Int) (a1 : Option Addr) (n1 c1 : Nat) (t1 : ByteArray) (kvs : List (ByteArray × Value)) : Prop where
  a : W.heap[w.heap.size]? = some (.cells #[.int .i64 s, .slice a1 n1 c1, .string t1] 26 (0, 0))
  r : W.heap[w.heap.size + 1]? = some (.cells #[.int .i64 0, .bool false, .slice none 0 0, .int .i64 0, .bool false, .slice none 0 0] 85 (0, 0))
  m : MapS W (w.heap.size + 1 + 1) kvs
  bel : Below w.heap.size w W
theorem EB.far {w W W' : World} {s : Int} {a1 : Option Addr} {n1 c1 : Nat} {t1 : ByteArray} {kvs : List (ByteArray × Value)} (h : EB w W s a1 n1 c1 t1 kvs) (hb : Below W.heap.size W W') : EB w W' s a1 n1 c1 t1 kvs :=
  ⟨(hb.block _ (lt_of_heap h.a)).trans h.a, (hb.block _ (lt_of_heap h.r)).trans h.r, h.m.far hb, h.bel.trans (hb.mono h.bel.size)⟩
theorem EB.put {w W W' : World} {s : Int} {a1 : Option Addr} {n1 c1 : Nat} {t1 : ByteArray} {kvs kvs' : List (ByteArray × Value)} (h : EB w W s a1 n1 c1 t1 kvs) (hm : MapS W' (w.heap.size + 1 + 1) kvs') (hg : W.grownBy W' (some (w.heap.size + 1 + 1))) : EB w W' s a1 n1 c1 t1 kvs' :=
  ⟨(hg.block _ (lt_of_heap h.a) (fun e => by have := Option.some.inj e; omega)).trans h.a, (hg.block _ (lt_of_heap h.r) (fun e => by have := Option.some.inj e; omega)).trans h.r, hm, h.bel.grown hg h.bel.size (fun k e => by cases e; omega)⟩
theorem newE (w : World) (o1 o2 : Obj) : ((((w.alloc o1).alloc o2).alloc (.map #[] 0)).heap[w.heap.size]? = some o1 ∧ (((w.alloc o1).alloc o2).alloc (.map #[] 0)).heap[w.heap.size + 1]? = some o2 ∧ MapS (((w.alloc o1).alloc o2).alloc (.map #[] 0)) (w.heap.size + 1 + 1) [] ∧ Below w.heap.size w (((w.alloc o1).alloc o2).alloc (.map #[] 0))) := by
  obtain ⟨h1, h2, h3, h4⟩ := newL3 w o1 o2 (.map #[] 0);exact ⟨h1, h2, ⟨#[], 0, h3, rfl⟩, h4⟩
/-- .. and the sum in S -/
structure ES (w W : World) (s : Int) (a1 : Option Addr) (n1 c1 : Nat) (t1 : ByteArray) (kvs : List (ByteArray × Value)) (S : Nat) (y0 y1 y2 y3 y4 y5 : Value) (q : Rat) : Prop where
  eb : EB w W s a1 n1 c1 t1 kvs
  hs : W.heap[S]? = some (.cells #[y0, y1, y2, y3, y4, y5] 85 (0, 0))
  vs : RV W (.agg #[y0, y1, y2, y3, y4, y5]) q
  l1 : w.heap.size + 1 + 1 < S
section
variable {w W W' : World} {s : Int} {a1 : Option Addr} {n1 c1 : Nat} {t1 : ByteArray} {kvs : List (ByteArray × Value)} {S : Nat} {y0 y1 y2 y3 y4 y5 : Value} {q : Rat}
theorem ES.far (h : ES w W s a1 n1 c1 t1 kvs S y0 y1 y2 y3 y4 y5 q) (hb : Below W.heap.size W W') : ES w W' s a1 n1 c1 t1 kvs S y0 y1 y2 y3 y4 y5 q :=
  ⟨h.eb.far hb, (hb.block _ (lt_of_heap h.hs)).trans h.hs, h.vs.far hb, h.l1⟩
theorem ES.put (h : ES w W s a1 n1 c1 t1 kvs S y0 y1 y2 y3 y4 y5 q) {z0 z1 z2 z3 z4 z5 : Value} {q' : Rat} (hq : RV W (.agg #[z0, z1, z2, z3, z4, z5]) q') : ES w (set6 W S z0 z1 z2 z3 z4 z5) s a1 n1 c1 t1 kvs S z0 z1 z2 z3 z4 z5 q' := by
  have h1 := h.l1;have ho : ∀ g, g ≠ S → (set6 W S z0 z1 z2 z3 z4 z5).heap[g]? = W.heap[g]? := fun g hg => set6_other hg _ _ _ _ _ _
  exact ⟨⟨(ho _ (by omega)).trans h.eb.a, (ho _ (by omega)).trans h.eb.r, h.eb.m.but (ho _ (by omega)), set6_below h.eb.bel (by omega) _ _ _ _ _ _⟩, set6_heap h.hs _ _ _ _ _ _, hq.but h.hs (by decide) ho, h1⟩
end
theorem end_ri {fn : Func} {t u : Tmp} {a : Act} {w2 : World} {R : Nat} {s1 : Int} {b1 : Bool} {a1 : Option Addr} {n1 c1 : Nat} {s2 : Int} {b2 : Bool} {a2 : Option Addr} {n2 c2 : Nat} {post : Ending → World → Prop} (hres : fn.results = #[.cell t 85, .tmp u]) (hd : a.defers = []) (ht : a.tmps.getD t undef = .pointer (some ⟨R, 0, none⟩)) (hu : a.tmps.getD u undef = .int .i64 0)
    (hR : w2.heap[R]? = some (.cells #[.int .i64 s1, .bool b1, .slice a1 n1 c1, .int .i64 s2, .bool b2, .slice a2 n2 c2] 85 (0, 0))) (h : post (.returned (.tuple #[.agg #[.int .i64 s1, .bool b1, .slice a1 n1 c1, .int .i64 s2, .bool b2, .slice a2 n2 c2], .int .i64 0])) w2) :
    bodyPost Tryz.prog fn post .ret a w2 := by
  have k0 := heap_cell hR 0;have k1 := heap_cell hR 1;have k2 := heap_cell hR 2;have k3 := heap_cell hR 3;have k4 := heap_cell hR 4;have k5 := heap_cell hR 5
  simp at k0 k1 k2 k3 k4 k5
  refine bodyPost_ret (v := .tuple #[.agg #[.int .i64 s1, .bool b1, .slice a1 n1 c1, .int .i64 s2, .bool b2, .slice a2 n2 c2], .int .i64 0]) ?_ hd h;have ht' : a.tmps[t]?.getD undef = .pointer (some ⟨R, 0, none⟩) := by simpa using ht
  have hu' : a.tmps[u]?.getD undef = .int .i64 0 := by simpa using hu
  simp [results, hres, go_sem, ht', hu', k0, k1, k2, k3, k4, k5]
theorem env_ds {s : Int} {es : List (List UInt8 × Rat)} (h : EnvG s es) (n : List UInt8) : DS 26 (cof es n) := by
  have : ∀ l : List (List UInt8 × Rat), (∀ x ∈ l, NumOk s x.2) → DS 26 (cof l n) := by
    intro l
    induction l with
    | nil => exact fun _ => DS.zero 26
    | cons y l ih =>
      intro h;obtain ⟨m, p⟩ := y;rw [cof_cons]
      split
      · exact (h (m, p) (by simp)).1
      · exact ih fun x hx => h x (by simp [hx])
  exact this es h.ok
end
end Go.Proofs.YteoklapcifonaaaGreatDoor

/- The laws of a vector space at linear expressions: the walk of the statement. -/
import Derived.Test.YtgfoljpjdmeooaaGreatDoorKLJ
import Derived.Test.YtgfoljpjdmeooaaGreatDoorKLT
import Derived.Test.YtgfoljpjdmeooaaGreatDoorKLD
import Derived.Laws.AppendOwnNone
import Derived.Laws.OwnMore
namespace Go.Proofs.YtgfoljpjdmeooaaGreatDoor
open Go.RowKit Nmx

theorem LV.open {w : World} {v : Value} {s : Int} {d : Nat} {c : Rat} {cs : List (List UInt8 × Rat)} (h : LV w v s d c cs) : ∃ ao n cap tx, v = .agg #[.int .i64 s, .slice ao n cap, .string tx] ∧ LV w (.agg #[.int .i64 s, .slice ao n cap, .string tx]) s d c cs := by
  have h' := h
  obtain ⟨ao, g, off, cap, rfl, -⟩ := h'
  exact ⟨_, _, _, _, rfl, h⟩
/-- a box and the expression in it -/
structure BX (w : World) (S : Nat) (s : Int) (ao : Option Addr) (n cap : Nat) (tx : ByteArray) (d : Nat) (c : Rat) (cs : List (List UInt8 × Rat)) : Prop where
  h : w.heap[S]? = some (.cells #[.int .i64 s, .slice ao n cap, .string tx] 26 (0, 0))
  l : LV w (.agg #[.int .i64 s, .slice ao n cap, .string tx]) s d c cs
section
variable {w w' : World} {S : Nat} {s : Int} {ao : Option Addr} {n cap : Nat} {tx : ByteArray} {d : Nat} {c : Rat} {cs : List (List UInt8 × Rat)}
theorem BX.far (h : BX w S s ao n cap tx d c cs) (hb : Below w.heap.size w w') : BX w' S s ao n cap tx d c cs := ⟨(hb.block _ (lt_of_heap h.h)).trans h.h, h.l.far hb⟩
theorem BX.mono (h : BX w S s ao n cap tx d c cs) {e : Nat} (he : d ≤ e) : BX w S s ao n cap tx e c cs := ⟨h.h, h.l.mono he⟩
theorem alloc_far (w : World) (o : Obj) : Below w.heap.size w (w.alloc o) := (Below.refl _ _).alloc (Nat.le_refl _) _
theorem BX.new (h : LV w (.agg #[.int .i64 s, .slice ao n cap, .string tx]) s d c cs) : BX (w.alloc (.cells #[.int .i64 s, .slice ao n cap, .string tx] 26)) w.heap.size s ao n cap tx d c cs :=
  ⟨heap_alloc_new w _, h.far (alloc_far w _)⟩
theorem BX.but (h : BX w S s ao n cap tx d c cs) {T : Nat} {x y z x' y' z' : Value} (hT : w.heap[T]? = some (.cells #[x, y, z] 26 (0, 0))) (hne : S ≠ T) : BX (((w.setCell ⟨T, 0, none⟩ x').setCell ⟨T, 1, none⟩ y').setCell ⟨T, 2, none⟩ z') S s ao n cap tx d c cs :=
  ⟨(set3_other _ _ _ hne).trans h.h, h.l.but hT (by decide) (fun _ hg => set3_other _ _ _ hg)⟩
theorem BX.put (h : LV w (.agg #[.int .i64 s, .slice ao n cap, .string tx]) s d c cs) {x y z : Value} (hT : w.heap[S]? = some (.cells #[x, y, z] 26 (0, 0))) : BX (((w.setCell ⟨S, 0, none⟩ (.int .i64 s)).setCell ⟨S, 1, none⟩ (.slice ao n cap)).setCell ⟨S, 2, none⟩ (.string tx)) S s ao n cap tx d c cs :=
  ⟨set3_heap hT, h.but hT (by decide) (fun _ hg => set3_other _ _ _ hg)⟩
theorem BX.lt (h : BX w S s ao n cap tx d c cs) : S < w.heap.size := lt_of_heap h.h
end
theorem new_far {w w' : World} {o : Obj} (h : (w.alloc o).grownBy w' (some w.heap.size)) : Below w.heap.size w w' :=
  ((Below.refl w.heap.size w).alloc (Nat.le_refl _) o).grown h (by simp) (fun k hk => by cases hk; exact Nat.le_refl _)
theorem ch_newL {w : World} {ao : Option Addr} {len cap : Nat} (h : ArgI w ao len cap) : Ch w.heap.size ao (min len 400) cap (w.alloc (.cells #[.slice ao (min len 400) cap, .int .i64 0] 63)) := by
  refine ⟨⟨0, Nat.zero_le _, heap_alloc_new w _⟩, by omega, fun hn => ?_⟩
  obtain ⟨b, off, e, hb, hx⟩ := h.rd (by have := h.le; omega)
  refine ⟨b, off, e, hb, fun t ht => ?_⟩
  obtain ⟨x, hx⟩ := hx t (by omega)
  exact ⟨x, (World.cell?_alloc_past _ _ _ hb).trans hx⟩
theorem ArgI.far {w w' : World} {ao : Option Addr} {len cap : Nat} (h : ArgI w ao len cap) (hb : Below w.heap.size w w') : ArgI w' ao len cap := by
  refine ⟨h.le, h.most, fun h0 => ?_⟩
  obtain ⟨b, off, e, hlt, hx⟩ := h.rd h0
  refine ⟨b, off, e, Nat.lt_of_lt_of_le hlt hb.size, fun t ht => ?_⟩
  obtain ⟨x, hx⟩ := hx t ht
  exact ⟨x, (hb.cell (p := ⟨b, off + t, none⟩) hlt).trans hx⟩
theorem BX.zero {w : World} {S : Nat} {s : Int} {ao : Option Addr} {n cap : Nat} {tx : ByteArray} {d : Nat} {c : Rat} {cs : List (List UInt8 × Rat)} (h : BX w S s ao n cap tx d c cs) (hc : c = 0) (hf : ∀ n, cof cs n = 0) : n = 0 ∧ tx = ⟨#[48]⟩ := by
  obtain ⟨ao', g, off, cap', he, -, -, hg, -⟩ := h.l
  injection he with he
  injection he with he
  injection he with _ he
  injection he with he1 he
  injection he with he2 _
  injection he1 with e1 e2 e3
  injection he2 with e4
  subst hc
  have : cs = [] := can_ext ord_ltB _ _ hg.can trivial (fun n => by rw [hf n]; rfl)
  rw [this] at e2
  exact ⟨e2, e4.trans tx_int_zero⟩
theorem BX.same {w : World} {S S' : Nat} {s : Int} {ao ao' : Option Addr} {n cap n' cap' : Nat} {tx tx' : ByteArray} {d d' : Nat} {c c' : Rat} {cs cs' : List (List UInt8 × Rat)} (h : BX w S s ao n cap tx d c cs) (h' : BX w S' s ao' n' cap' tx' d' c' cs') (hc : c = c') (hf : ∀ n, cof cs n = cof cs' n) :
    Calls Tryz.prog 15 #[.agg #[.int .i64 s, .slice ao n cap, .string tx], .agg #[.int .i64 s, .slice ao' n' cap', .string tx']] w fun e w' => e = .returned (.bool true) ∧ Below w.heap.size w w' := by
  obtain ⟨b, g, off, cp, he, hr, -, hg, -⟩ := h.l
  obtain ⟨b', g', off', cp', he', hr', -, hg', -⟩ := h'.l
  rw [he, he']
  subst hc
  obtain rfl : cs = cs' := can_ext ord_ltB _ _ hg.can hg'.can hf
  exact same_ok w s cs (TX c) b g off cp b' g' off' cp' hr hr'
end Go.Proofs.YtgfoljpjdmeooaaGreatDoor

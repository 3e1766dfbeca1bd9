/- Rows of coefficients; where 'combine' stands. -/
import Derived.Test.YteoklapcifonaaaGreatDoorNLG
import Derived.Deep.RegionHeld3
import Derived.Deep.DeepCutAuto
import Derived.Deep.LoopGhost
import Derived.Deep.AppendLies
namespace Go.Proofs.YteoklapcifonaaaGreatDoor
open Go.RowKit Nmx
open Go.Lib (compareBytes)
/-- the cells of a row of coefficients -/
def flat : List (List UInt8 × Rat) → List Value
 | [] => []
 | x :: l => .string ⟨x.1.toArray⟩ :: .string (TX x.2) :: flat l
theorem flat_append (a b : List (List UInt8 × Rat)) : flat (a ++ b) = flat a ++ flat b := by
 induction a with
 | nil => rfl
 | cons x a ih => rw [List.cons_append, flat, ih]; rfl
theorem flat_nm (a : List (List UInt8 × Rat)) : ∀ i (h : i < a.length), (flat a)[i * 2]? = some (.string ⟨a[i].1.toArray⟩) := by
 induction a with
 | nil => intro i h; exact absurd h (by simp)
 | cons x a ih =>
   intro i h;cases i with
   | zero => rfl
   | succ i =>
     have := ih i (by rw [List.length_cons] at h; omega);rw [show (i + 1) * 2 = i * 2 + 1 + 1 by omega, flat, List.getElem?_cons_succ, List.getElem?_cons_succ, this, List.getElem_cons_succ]
theorem flat_nu (a : List (List UInt8 × Rat)) : ∀ i (h : i < a.length), (flat a)[i * 2 + 1]? = some (.string (TX a[i].2)) := by
 induction a with
 | nil => intro i h; exact absurd h (by simp)
 | cons x a ih =>
   intro i h;cases i with
   | zero => rfl
   | succ i =>
     have := ih i (by rw [List.length_cons] at h; omega);rw [show (i + 1) * 2 + 1 = i * 2 + 1 + 1 + 1 by omega, flat, List.getElem?_cons_succ, List.getElem?_cons_succ, this, List.getElem_cons_succ]
theorem csl_of_row {w : World} {base : Nat} {e : TypeId} {v : Value} {rs : List (List UInt8 × Rat)} (h : w.ownsRow base e 2 v rs.length (flat rs)) :
    ∃ ao g cap, v = .slice ao rs.length cap ∧ CSl w ao g 0 cap rs ∧ (rs.length = 0 ∨ base ≤ g) := by
 rcases h.2 with ⟨rfl, hn⟩ | ⟨g, cap, cur, hv, hb, hg, hn, hc, _, htake⟩
 · refine ⟨none, 0, 0, by rw [hn], ⟨by omega, by omega, fun h => by omega, fun i hi => by omega, fun i hi => by omega⟩, .inl hn⟩
 · have hcell : ∀ j u, (flat rs)[j]? = some u → w.cell? ⟨g, j, none⟩ = some u := fun j u hu => by
     have := h.cells (g := g) (by rw [hv]; rfl) j u hu;rwa [show (⟨g, 0, none⟩ : Addr).add j = ⟨g, j, none⟩ by unfold Addr.add; split <;> simp_all] at this
   refine ⟨some ⟨g, 0, none⟩, g, cap, hv, ⟨hn, hc, fun _ => rfl, fun i hi => ?_, fun i hi => ?_⟩, .inr hb⟩
   · rw [Nat.zero_add]; exact hcell _ _ (flat_nm rs i hi)
   · rw [Nat.zero_add]; exact hcell _ _ (flat_nu rs i hi)
/-- where 'combine' stands: i coefficients of the one, j of the other are taken -/
structure CS (d : Nat) (k : Rat) (cs1 cs2 r : List (List UInt8 × Rat)) (i j : Nat) : Prop where
 cm : Cmb ltB k cs1 cs2 r (cs1.drop i) (cs2.drop j)
 nm : ∀ x ∈ r, x.1 ∈ cs1.map Prod.fst ∨ x.1 ∈ cs2.map Prod.fst
 ds : ∀ x ∈ r, DS d x.2
theorem CS.start {d : Nat} {k : Rat} {cs1 cs2 : List (List UInt8 × Rat)} (h1 : Can ltB cs1) (h2 : Can ltB cs2) : CS d k cs1 cs2 [] 0 0 :=
 ⟨Cmb.start h1 h2, fun _ hx => (List.not_mem_nil hx).elim, fun _ hx => (List.not_mem_nil hx).elim⟩
theorem CS.stop {d : Nat} {k : Rat} {cs1 cs2 r : List (List UInt8 × Rat)} (h : CS d k cs1 cs2 r cs1.length cs2.length) : Can ltB r ∧ ∀ n, cof r n = cof cs1 n + k * cof cs2 n := by
 have := h.cm;rw [List.drop_length, List.drop_length] at this;exact this.stop
theorem mem_put {r : List (List UInt8 × Rat)} {n : List UInt8} {c : Rat} {x : List UInt8 × Rat} (h : x ∈ if c = 0 then r else r ++ [(n, c)]) : x ∈ r ∨ x = (n, c) := by
 split at h
 · exact .inl h
 · rcases List.mem_append.1 h with h | h
   · exact .inl h
   · exact .inr (List.mem_singleton.1 h)
theorem CS.left {d : Nat} {k : Rat} {cs1 cs2 r : List (List UInt8 × Rat)} {i j : Nat} (h : CS d k cs1 cs2 r i j) (hi : i < cs1.length) (hj : ∀ hj : j < cs2.length, ltB cs1[i].1 cs2[j].1) (hd : DS d cs1[i].2) :
    CS d k cs1 cs2 (if cs1[i].2 = 0 then r else r ++ [(cs1[i].1, cs1[i].2)]) (i + 1) j := by
 have hc := h.cm;rw [List.drop_eq_getElem_cons hi] at hc;refine ⟨hc.left ord_ltB fun y hy => ?_, fun x hx => ?_, fun x hx => ?_⟩
 · by_cases hjl : j < cs2.length
   · rw [List.drop_eq_getElem_cons hjl] at hy;obtain rfl := Option.some.inj hy;exact hj hjl
   · rw [List.drop_eq_nil_of_le (by omega)] at hy; cases hy
 · rcases mem_put hx with h1 | rfl
   · exact h.nm x h1
   · exact .inl (List.mem_map.2 ⟨_, List.getElem_mem hi, rfl⟩)
 · rcases mem_put hx with h1 | rfl
   · exact h.ds x h1
   · exact hd
theorem CS.right {d : Nat} {k : Rat} {cs1 cs2 r : List (List UInt8 × Rat)} {i j : Nat} (h : CS d k cs1 cs2 r i j) (hj : j < cs2.length) (hi : ∀ hi : i < cs1.length, ltB cs2[j].1 cs1[i].1) (hd : DS d (k * cs2[j].2)) :
    CS d k cs1 cs2 (if k * cs2[j].2 = 0 then r else r ++ [(cs2[j].1, k * cs2[j].2)]) i (j + 1) := by
 have hc := h.cm;rw [List.drop_eq_getElem_cons hj] at hc;refine ⟨hc.right ord_ltB fun y hy => ?_, fun x hx => ?_, fun x hx => ?_⟩
 · by_cases hil : i < cs1.length
   · rw [List.drop_eq_getElem_cons hil] at hy;obtain rfl := Option.some.inj hy;exact hi hil
   · rw [List.drop_eq_nil_of_le (by omega)] at hy; cases hy
 · rcases mem_put hx with h1 | rfl
   · exact h.nm x h1
   · exact .inr (List.mem_map.2 ⟨_, List.getElem_mem hj, rfl⟩)
 · rcases mem_put hx with h1 | rfl
   · exact h.ds x h1
   · exact hd
theorem CS.both {d : Nat} {k : Rat} {cs1 cs2 r : List (List UInt8 × Rat)} {i j : Nat} (h : CS d k cs1 cs2 r i j) (hi : i < cs1.length) (hj : j < cs2.length) (he : cs1[i].1 = cs2[j].1) (hd : DS d (cs1[i].2 + k * cs2[j].2)) :
    CS d k cs1 cs2 (if cs1[i].2 + k * cs2[j].2 = 0 then r else r ++ [(cs2[j].1, cs1[i].2 + k * cs2[j].2)]) (i + 1) (j + 1) := by
 have hc := h.cm;rw [List.drop_eq_getElem_cons hi, List.drop_eq_getElem_cons hj] at hc;have h1 : cs1[i] = (cs2[j].1, cs1[i].2) := by rw [← he]
 rw [h1] at hc;refine ⟨hc.both ord_ltB, fun x hx => ?_, fun x hx => ?_⟩
 · rcases mem_put hx with h1 | rfl
   · exact h.nm x h1
   · exact .inr (List.mem_map.2 ⟨_, List.getElem_mem hj, rfl⟩)
 · rcases mem_put hx with h1 | rfl
   · exact h.ds x h1
   · exact hd
end Go.Proofs.YteoklapcifonaaaGreatDoor
/- What lies in memory while 'combine' runs. -/
namespace Go.Proofs.YteoklapcifonaaaGreatDoor
open Go.RowKit Nmx
open Go.Lib (compareBytes)
theorem heap_al {w : World} {Q : Nat} {ob : Obj} (h : w.heap[Q]? = some ob) (o : Obj) : (w.alloc o).heap[Q]? = some ob := (Below.heap_alloc _ _ _ (ab h)).trans h
/-- the boxes of 'combine' -/
structure KB (w wx : World) (s1 s2 : Int) (a1 a2 : Option Addr) (n1 c1 n2 c2 : Nat) (t1 t2 : ByteArray) (x0 x1 x2 x3 x4 x5 : Value) (k : Rat) : Prop where
 a : wx.heap[w.heap.size]? = some (.cells #[.int .i64 s1, .slice a1 n1 c1, .string t1] 26 (0, 0))
 b : wx.heap[w.heap.size + 1]? = some (.cells #[.int .i64 s2, .slice a2 n2 c2, .string t2] 26 (0, 0))
 kk : wx.heap[w.heap.size + 2]? = some (.cells #[x0, x1, x2, x3, x4, x5] 85 (0, 0))
 r : wx.heap[w.heap.size + 3]? = some (.cells #[.int .i64 0, .slice none 0 0, .string ⟨#[]⟩] 26 (0, 0))
 kv : RV wx (.agg #[x0, x1, x2, x3, x4, x5]) k
 bel : Below w.heap.size w wx
theorem KB.far {w wx w1 : World} {s1 s2 : Int} {a1 a2 : Option Addr} {n1 c1 n2 c2 : Nat} {t1 t2 : ByteArray} {x0 x1 x2 x3 x4 x5 : Value} {k : Rat} (h : KB w wx s1 s2 a1 a2 n1 c1 n2 c2 t1 t2 x0 x1 x2 x3 x4 x5 k) (hb : Below wx.heap.size wx w1) : KB w w1 s1 s2 a1 a2 n1 c1 n2 c2 t1 t2 x0 x1 x2 x3 x4 x5 k :=
 ⟨(hb.block _ (ab h.a)).trans h.a, (hb.block _ (ab h.b)).trans h.b, (hb.block _ (ab h.kk)).trans h.kk, (hb.block _ (ab h.r)).trans h.r, h.kv.far hb, h.bel.trans (hb.mono h.bel.size)⟩
theorem KB.al {w wx : World} {s1 s2 : Int} {a1 a2 : Option Addr} {n1 c1 n2 c2 : Nat} {t1 t2 : ByteArray} {x0 x1 x2 x3 x4 x5 : Value} {k : Rat} (h : KB w wx s1 s2 a1 a2 n1 c1 n2 c2 t1 t2 x0 x1 x2 x3 x4 x5 k) (o : Obj) : KB w (wx.alloc o) s1 s2 a1 a2 n1 c1 n2 c2 t1 t2 x0 x1 x2 x3 x4 x5 k := h.far ((Below.refl _ _).alloc (Nat.le_refl _) _)
theorem KB.drew {w wx : World} {s1 s2 : Int} {a1 a2 : Option Addr} {n1 c1 n2 c2 : Nat} {t1 t2 : ByteArray} {x0 x1 x2 x3 x4 x5 : Value} {k : Rat} (h : KB w wx s1 s2 a1 a2 n1 c1 n2 c2 t1 t2 x0 x1 x2 x3 x4 x5 k) : KB w wx.drew s1 s2 a1 a2 n1 c1 n2 c2 t1 t2 x0 x1 x2 x3 x4 x5 k := h.far (Below.refl _ _).drew
theorem KB.cells {w wx : World} {s1 s2 : Int} {a1 a2 : Option Addr} {n1 c1 n2 c2 : Nat} {t1 t2 : ByteArray} {x0 x1 x2 x3 x4 x5 : Value} {k : Rat} (h : KB w wx s1 s2 a1 a2 n1 c1 n2 c2 t1 t2 x0 x1 x2 x3 x4 x5 k) :
    wx.cell? ⟨w.heap.size, 0, none⟩ = some (.int .i64 s1) ∧ wx.cell? ⟨w.heap.size, 2, none⟩ = some (.string t1) ∧ wx.cell? ⟨w.heap.size + 1, 2, none⟩ = some (.string t2) ∧ wx.cell? ⟨w.heap.size + 2, 0, none⟩ = some x0 ∧ wx.cell? ⟨w.heap.size + 2, 1, none⟩ = some x1 ∧ wx.cell? ⟨w.heap.size + 2, 2, none⟩ = some x2 ∧ wx.cell? ⟨w.heap.size + 2, 3, none⟩ = some x3 ∧ wx.cell? ⟨w.heap.size + 2, 4, none⟩ = some x4 ∧ wx.cell? ⟨w.heap.size + 2, 5, none⟩ = some x5 :=
 ⟨aa h.a 0, aa h.a 2, aa h.b 2, aa h.kk 0, aa h.kk 1, aa h.kk 2, aa h.kk 3, aa h.kk 4, aa h.kk 5⟩
theorem KB.st {w wx : World} {S : Nat} {cs : Array Value} {s1 s2 : Int} {a1 a2 : Option Addr} {n1 c1 n2 c2 : Nat} {t1 t2 : ByteArray} {x0 x1 x2 x3 x4 x5 : Value} {k : Rat} (h : KB w wx s1 s2 a1 a2 n1 c1 n2 c2 t1 t2 x0 x1 x2 x3 x4 x5 k) (hS : wx.heap[S]? = some (.cells cs 26 (0, 0))) (hlt : w.heap.size + 3 < S) (u0 u1 u2 : Value) :
    KB w (((wx.setCell ⟨S, 0, none⟩ u0).setCell ⟨S, 1, none⟩ u1).setCell ⟨S, 2, none⟩ u2) s1 s2 a1 a2 n1 c1 n2 c2 t1 t2 x0 x1 x2 x3 x4 x5 k := by
 refine ⟨?_, ?_, ?_, ?_, h.kv.heap_same hS (by decide) fun j hj => aj _ _ _ hj, ?_⟩
 · rw [aj _ _ _ (by omega)]; exact h.a
 · rw [aj _ _ _ (by omega)]; exact h.b
 · rw [aj _ _ _ (by omega)]; exact h.kk
 · rw [aj _ _ _ (by omega)]; exact h.r
 · exact ((h.bel.setCell (show w.heap.size ≤ (⟨S, 0, none⟩ : Addr).block by show _ ≤ S; omega) _).setCell (show w.heap.size ≤ (⟨S, 1, none⟩ : Addr).block by show _ ≤ S; omega) _).setCell (show w.heap.size ≤ (⟨S, 2, none⟩ : Addr).block by show _ ≤ S; omega) _
theorem RV.al {w : World} {v : Value} {q : Rat} (h : RV w v q) (o : Obj) : RV (w.alloc o) v q := h.far ((Below.refl _ _).alloc (Nat.le_refl _) _)
theorem RV.drew {w : World} {v : Value} {q : Rat} (h : RV w v q) : RV w.drew v q := h.far (Below.refl _ _).drew
theorem KB.lt {w wx : World} {s1 s2 : Int} {a1 a2 : Option Addr} {n1 c1 n2 c2 : Nat} {t1 t2 : ByteArray} {x0 x1 x2 x3 x4 x5 : Value} {k : Rat} (h : KB w wx s1 s2 a1 a2 n1 c1 n2 c2 t1 t2 x0 x1 x2 x3 x4 x5 k) : w.heap.size + 3 < wx.heap.size := ab h.r
theorem new4 (w : World) (o1 o2 o3 o4 : Obj) : ((((w.alloc o1).alloc o2).alloc o3).alloc o4).heap[w.heap.size]? = some o1 ∧ ((((w.alloc o1).alloc o2).alloc o3).alloc o4).heap[w.heap.size + 1]? = some o2 ∧ ((((w.alloc o1).alloc o2).alloc o3).alloc o4).heap[w.heap.size + 2]? = some o3 ∧ ((((w.alloc o1).alloc o2).alloc o3).alloc o4).heap[w.heap.size + 3]? = some o4 ∧ Below w.heap.size w ((((w.alloc o1).alloc o2).alloc o3).alloc o4) := by
 have h1 := heap_alloc_new w o1;have h2 := heap_alloc_new (w.alloc o1) o2;have h3 := heap_alloc_new ((w.alloc o1).alloc o2) o3;have h4 := heap_alloc_new (((w.alloc o1).alloc o2).alloc o3) o4;refine ⟨heap_al (heap_al (heap_al h1 _) _) _, ?_, ?_, ?_, ?_⟩
 · have := heap_al (heap_al h2 o3) o4; simpa using this
 · have := heap_al h3 o4; simpa using this
 · simpa using h4
 · have b1 : Below w.heap.size w (w.alloc o1) := (Below.refl _ _).alloc (Nat.le_refl _) _;have b2 := b1.alloc b1.size o2;have b3 := b2.alloc b2.size o3;exact b3.alloc b3.size o4
/-- the sum as it begins -/
def CB (w : World) (P : World → Prop) (s : Int) (t : ByteArray) (v : Value) (wx : World) : Prop := ∃ S : Nat, v = .pointer (some ⟨S, 0, none⟩) ∧ w.heap.size + 3 < S ∧ wx.heap[S]? = some (.cells #[.int .i64 s, .slice none 0 0, .string t] 26 (0, 0)) ∧ P wx
/-- every block of words is as it was -/
def Words (w w' : World) : Prop := ∀ (g : Nat) (cs : Array Value) (fr : Nat × Nat), w.heap[g]? = some (.cells cs 145 fr) → w'.heap[g]? = some (.cells cs 145 fr)
theorem WS.kept {w w' : World} {ao : Option Addr} {g off cap : Nat} {l : List Nat} (h : WS w ao g off cap l) (hw : Words w w') : WS w' ao g off cap l :=
 h.same fun hc => by
  obtain ⟨cs, fr, hb⟩ := h.blk hc;rw [hw _ _ _ hb, hb]
theorem IV.kept {w w' : World} {v : Value} {z : Int} (h : IV w v z) (hw : Words w w') : IV w' v z := by
 rcases h with h | ⟨b, g, off, cap, l, h1, h2, h3, h4⟩
 · exact .inl h
 · exact .inr ⟨b, g, off, cap, l, h1, h2.kept hw, h3, h4⟩
theorem RV.kept {w w' : World} {v : Value} {q : Rat} (h : RV w v q) (hw : Words w w') : RV w' v q :=
 let ⟨s1, b1, a1, n1, c1, s2, b2, a2, n2, c2, e, h1, h2⟩ := h
 ⟨s1, b1, a1, n1, c1, s2, b2, a2, n2, c2, e, h1.kept hw, h2.kept hw⟩
theorem words_but {w w' : World} {R : Nat} {cs : Array Value} {t : TypeId} {fr : Nat × Nat} (hR : w.heap[R]? = some (.cells cs t fr)) (ht : t ≠ 145) (ho : ∀ g, g < w.heap.size → g ≠ R → w'.heap[g]? = w.heap[g]?) : Words w w' := fun g cs' fr' h => by
 have hne : g ≠ R := fun e => by
  rw [e, hR] at h;cases h
  exact ht rfl
 rw [ho g (ab h) hne, h]
theorem words_grown {w w' : World} {b n : Nat} {v : Value} {xs : List Value} (hg : w.grownBy w' v.ownBlock) (hrow : w.ownsRow b 79 2 v n xs) : Words w w' := fun g cs fr h => by
 rw [hg.block g (ab h) ?_, h];intro e;rcases hrow.2 with ⟨rfl, _⟩ | ⟨g', cap, cur, rfl, _, hgg, _⟩
 · cases e
 · injection e with e;subst e;rw [h] at hgg;cases hgg
theorem row_same {w w' : World} {b n z : Nat} {e : TypeId} {v : Value} {xs : List Value} (h : w.ownsRow b e z v n xs) (hs : ∀ g, v.ownBlock = some g → w'.heap[g]? = w.heap[g]?) : w'.ownsRow b e z v n xs := by
 refine ⟨h.1, ?_⟩;rcases h.2 with hn | ⟨g, cap, cur, rfl, hb, hg, h3⟩
 · exact .inl hn
 · exact .inr ⟨g, cap, cur, rfl, hb, (hs g rfl).trans hg, h3⟩
theorem KB.kept {w wx w' : World} {s1 s2 : Int} {a1 a2 : Option Addr} {n1 c1 n2 c2 : Nat} {t1 t2 : ByteArray} {x0 x1 x2 x3 x4 x5 : Value} {k : Rat} (h : KB w wx s1 s2 a1 a2 n1 c1 n2 c2 t1 t2 x0 x1 x2 x3 x4 x5 k) (hs : ∀ g, g ≤ w.heap.size + 3 → w'.heap[g]? = wx.heap[g]?) (hw : Words wx w') (hb : Below w.heap.size w w') : KB w w' s1 s2 a1 a2 n1 c1 n2 c2 t1 t2 x0 x1 x2 x3 x4 x5 k :=
 ⟨(hs _ (by omega)).trans h.a, (hs _ (by omega)).trans h.b, (hs _ (by omega)).trans h.kk, (hs _ (by omega)).trans h.r, h.kv.kept hw, hb⟩
/-- between two rounds -/
structure LS (w wx : World) (S : Nat) (s1 s2 : Int) (a1 a2 : Option Addr) (n1 c1 n2 c2 : Nat) (t1 t2 t3 : ByteArray) (x0 x1 x2 x3 x4 x5 : Value) (k : Rat) (v : Value) (r : List (List UInt8 × Rat)) : Prop where
 kb : KB w wx s1 s2 a1 a2 n1 c1 n2 c2 t1 t2 x0 x1 x2 x3 x4 x5 k
 hs : wx.heap[S]? = some (.cells #[.int .i64 s1, v, .string t3] 26 (0, 0))
 row : wx.ownsRow (S + 1) 79 2 v r.length (flat r)
 sS : w.heap.size + 3 < S
/-- in a round: the number at hand lies in block N -/
structure MS (w wx : World) (S N : Nat) (s1 s2 : Int) (a1 a2 : Option Addr) (n1 c1 n2 c2 : Nat) (t1 t2 t3 : ByteArray) (x0 x1 x2 x3 x4 x5 : Value) (k : Rat) (v : Value) (r : List (List UInt8 × Rat)) (y0 y1 y2 y3 y4 y5 : Value) (q : Rat) : Prop where
 ls : LS w wx S s1 s2 a1 a2 n1 c1 n2 c2 t1 t2 t3 x0 x1 x2 x3 x4 x5 k v r
 nn : wx.heap[N]? = some (.cells #[y0, y1, y2, y3, y4, y5] 85 (0, 0))
 rv : RV wx (.agg #[y0, y1, y2, y3, y4, y5]) q
 sN : S < N
 gN : v.ownBlock ≠ some N
theorem LS.far {w wx w' : World} {S : Nat} {s1 s2 : Int} {a1 a2 : Option Addr} {n1 c1 n2 c2 : Nat} {t1 t2 t3 : ByteArray} {x0 x1 x2 x3 x4 x5 : Value} {k : Rat} {v : Value} {r : List (List UInt8 × Rat)} (h : LS w wx S s1 s2 a1 a2 n1 c1 n2 c2 t1 t2 t3 x0 x1 x2 x3 x4 x5 k v r) (hb : Below wx.heap.size wx w') : LS w w' S s1 s2 a1 a2 n1 c1 n2 c2 t1 t2 t3 x0 x1 x2 x3 x4 x5 k v r :=
 ⟨h.kb.far hb, (hb.block _ (ab h.hs)).trans h.hs, row_same h.row fun g hg => hb.block _ (h.row.lt g hg).2, h.sS⟩
theorem MS.far {w wx w' : World} {S N : Nat} {s1 s2 : Int} {a1 a2 : Option Addr} {n1 c1 n2 c2 : Nat} {t1 t2 t3 : ByteArray} {x0 x1 x2 x3 x4 x5 : Value} {k : Rat} {v : Value} {r : List (List UInt8 × Rat)} {y0 y1 y2 y3 y4 y5 : Value} {q : Rat} (h : MS w wx S N s1 s2 a1 a2 n1 c1 n2 c2 t1 t2 t3 x0 x1 x2 x3 x4 x5 k v r y0 y1 y2 y3 y4 y5 q) (hb : Below wx.heap.size wx w') : MS w w' S N s1 s2 a1 a2 n1 c1 n2 c2 t1 t2 t3 x0 x1 x2 x3 x4 x5 k v r y0 y1 y2 y3 y4 y5 q :=
 ⟨h.ls.far hb, (hb.block _ (ab h.nn)).trans h.nn, h.rv.far hb, h.sN, h.gN⟩
/-- the number's block is made -/
theorem LS.num {w wx : World} {S : Nat} {s1 s2 : Int} {a1 a2 : Option Addr} {n1 c1 n2 c2 : Nat} {t1 t2 t3 : ByteArray} {x0 x1 x2 x3 x4 x5 : Value} {k : Rat} {v : Value} {r : List (List UInt8 × Rat)} {y0 y1 y2 y3 y4 y5 : Value} {q : Rat} (h : LS w wx S s1 s2 a1 a2 n1 c1 n2 c2 t1 t2 t3 x0 x1 x2 x3 x4 x5 k v r) (hq : RV wx (.agg #[y0, y1, y2, y3, y4, y5]) q) : MS w (wx.alloc (.cells #[y0, y1, y2, y3, y4, y5] 85)) S wx.heap.size s1 s2 a1 a2 n1 c1 n2 c2 t1 t2 t3 x0 x1 x2 x3 x4 x5 k v r y0 y1 y2 y3 y4 y5 q := by
 have hb : Below wx.heap.size wx (wx.alloc (.cells #[y0, y1, y2, y3, y4, y5] 85)) := (Below.refl _ _).alloc (Nat.le_refl _) _;exact ⟨h.far hb, heap_alloc_new _ _, hq.far hb, ab h.hs, fun e => Nat.lt_irrefl _ (h.row.lt _ e).2⟩
/-- a new number is stored -/
theorem MS.put {w wx : World} {S N : Nat} {s1 s2 : Int} {a1 a2 : Option Addr} {n1 c1 n2 c2 : Nat} {t1 t2 t3 : ByteArray} {x0 x1 x2 x3 x4 x5 : Value} {k : Rat} {v : Value} {r : List (List UInt8 × Rat)} {y0 y1 y2 y3 y4 y5 : Value} {q : Rat} (h : MS w wx S N s1 s2 a1 a2 n1 c1 n2 c2 t1 t2 t3 x0 x1 x2 x3 x4 x5 k v r y0 y1 y2 y3 y4 y5 q) {z0 z1 z2 z3 z4 z5 : Value} {q' : Rat} (hq : RV wx (.agg #[z0, z1, z2, z3, z4, z5]) q') : MS w (set6 wx N z0 z1 z2 z3 z4 z5) S N s1 s2 a1 a2 n1 c1 n2 c2 t1 t2 t3 x0 x1 x2 x3 x4 x5 k v r z0 z1 z2 z3 z4 z5 q' := by
 have ho : ∀ g, g ≠ N → (set6 wx N z0 z1 z2 z3 z4 z5).heap[g]? = wx.heap[g]? := fun g hg => set6_other hg _ _ _ _ _ _
 have hw : Words wx (set6 wx N z0 z1 z2 z3 z4 z5) := words_but h.nn (by decide) fun g _ hg => ho g hg
 have h1 := h.sN;have h2 := h.ls.sS;refine ⟨⟨h.ls.kb.kept (fun g hg => ho g (by omega)) hw (set6_below h.ls.kb.bel (by omega) _ _ _ _ _ _), (ho _ (by omega)).trans h.ls.hs, row_same h.ls.row fun g hg => ho g (fun e => h.gN (by rw [hg, e])), h.ls.sS⟩, set6_heap h.nn _ _ _ _ _ _, hq.kept hw, h.sN, h.gN⟩
/-- what is stored into the result's box is handed back -/
theorem end_lin {fn : Func} {t : Tmp} {a : Act} {w2 : World} {R : Nat} {s : Int} {ao : Option Addr} {n c : Nat} {tx : ByteArray} {post : Ending → World → Prop} {y0 y1 y2 : Value} (hres : fn.results = #[.cell t 26]) (hd : a.defers = []) (ht : a.tmps.getD t undef = .pointer (some ⟨R, 0, none⟩))
    (hR : w2.heap[R]? = some (.cells #[y0, y1, y2] 26 (0, 0))) (h : post (.returned (.agg #[.int .i64 s, .slice ao n c, .string tx])) (((w2.setCell ⟨R, 0, none⟩ (.int .i64 s)).setCell ⟨R, 1, none⟩ (.slice ao n c)).setCell ⟨R, 2, none⟩ (.string tx))) :
    bodyPost Tryz.prog fn post .ret a (((w2.setCell ⟨R, 0, none⟩ (.int .i64 s)).setCell ⟨R, 1, none⟩ (.slice ao n c)).setCell ⟨R, 2, none⟩ (.string tx)) := by
 have h3 := aU (x := .int .i64 s) (y := .slice ao n c) (z := .string tx) hR;generalize ((w2.setCell ⟨R, 0, none⟩ (.int .i64 s)).setCell ⟨R, 1, none⟩ (.slice ao n c)).setCell ⟨R, 2, none⟩ (.string tx) = w3 at *;have k0 := aa h3 0;have k1 := aa h3 1;have k2 := aa h3 2
 simp at k0 k1 k2
 refine bodyPost_ret (v := .agg #[.int .i64 s, .slice ao n c, .string tx]) ?_ hd h;have ht' : a.tmps[t]?.getD undef = .pointer (some ⟨R, 0, none⟩) := by simpa using ht
 simp [results, hres, go_sem, ht', k0, k1, k2]
end Go.Proofs.YteoklapcifonaaaGreatDoor

/- linear.combine. -/
import Derived.Test.YteoklapcifonaaaGreatDoorNLH
import Derived.Test.YteoklapcifonaaaGreatDoorNLS
import Derived.Deep.LoopGhost
import Derived.Deep.DeepCutAuto
import Derived.BigQuiet
open Go.Lib (hid)
namespace Go.Proofs.YteoklapcifonaaaGreatDoor
open Go.RowKit Nmx
open Go.Lib (compareBytes)
/-- which of the two comes next -/
def OF (cs1 cs2 : List (List UInt8 × Rat)) (i j : Nat) (o : Int) : Prop :=
 (o = -1 ∧ ∃ hi : i < cs1.length, ∀ hj : j < cs2.length, ltB cs1[i].1 cs2[j].1) ∨ (o = 0 ∧ ∃ (hi : i < cs1.length) (hj : j < cs2.length), cs1[i].1 = cs2[j].1) ∨ (o = 1 ∧ ∃ hj : j < cs2.length, ∀ hi : i < cs1.length, ltB cs2[j].1 cs1[i].1)
/-- aI the first 'if' -/
def IF1 (M : World → Rat → Prop) (cs1 : List (List UInt8 × Rat)) (i : Nat) (o : Int) (v8 v11 : Value) (wx : World) : Prop :=
 ∃ (i' : Nat) (nm : List UInt8) (q : Rat), v8 = .int .i64 i' ∧ v11 = .string ⟨nm.toArray⟩ ∧ M wx q ∧ ((o ≤ 0 ∧ i' = i + 1 ∧ ∃ hi : i < cs1.length, nm = cs1[i].1 ∧ q = cs1[i].2) ∨ (0 < o ∧ i' = i ∧ q = 0))
/-- aI the second 'if' -/
def IF2 (M : World → Rat → Prop) (d : Nat) (k : Rat) (cs1 cs2 r : List (List UInt8 × Rat)) (i' ij : Nat) (v9 v11 : Value) (wx : World) : Prop :=
 ∃ (j' : Nat) (nm : List UInt8) (q : Rat), v9 = .int .i64 j' ∧ v11 = .string ⟨nm.toArray⟩ ∧ M wx q ∧ i' ≤ cs1.length ∧ j' ≤ cs2.length ∧ ij < i' + j' ∧ CS d k cs1 cs2 (if q = 0 then r else r ++ [(nm, q)]) i' j'
/-- coefficients whose names are of a list of names -/
structure GoodU (U : List (List UInt8)) (d : Nat) (cs : List (List UInt8 × Rat)) : Prop where
 can : Can ltB cs
 nm : ∀ x ∈ cs, x.1 ∈ U
 ds : ∀ x ∈ cs, DS d x.2
theorem Good.u [Nms] {d : Nat} {cs : List (List UInt8 × Rat)} (h : Good d cs) : GoodU Nms.U d cs := ⟨h.can, h.nm, h.ds⟩
theorem GoodU.gd [Nms] {d : Nat} {cs : List (List UInt8 × Rat)} (h : GoodU Nms.U d cs) : Good d cs := ⟨h.can, h.nm, h.ds⟩
theorem GoodU.four {d : Nat} {cs : List (List UInt8 × Rat)} (h : GoodU nm4 d cs) : Good d cs := ⟨h.can, h.nm, h.ds⟩
theorem can_lenU {l : List (List UInt8 × Rat)} (h : Can ltB l) : ∀ U : List (List UInt8), (∀ x ∈ l, x.1 ∈ U) → l.length ≤ U.length := by
 induction l with
 | nil => exact fun U _ => Nat.zero_le _
 | cons x l ih =>
   intro U hU;have hx : x.1 ∈ U := hU x (by simp)
   have h1 := ih h.2.2 (U.erase x.1) fun y hy => by
    have hne : y.1 ≠ x.1 := fun e => ord_ltB.irr x.1 (by have := h.2.1 y hy; rw [e] at this; exact this)
    exact (List.mem_erase_of_ne hne).2 (hU y (by simp [hy]))
   rw [List.length_erase_of_mem hx] at h1;have : 0 < U.length := List.length_pos_of_mem hx;rw [List.length_cons]
   omega
theorem can_len8 [Nms] {d : Nat} {cs : List (List UInt8 × Rat)} (h : Good d cs) : cs.length ≤ 8 := Nat.le_trans (can_lenU h.can Nms.U h.nm) Nms.len
def CombU (U : List (List UInt8)) (w : World) (s : Int) (d : Nat) (p : Rat) (cs1 cs2 : List (List UInt8 × Rat)) (k : Rat) (e : Ending) (w' : World) : Prop :=
 ∃ rs ao g cap, e = .returned (.agg #[.int .i64 s, .slice ao rs.length cap, .string (TX p)]) ∧ CSl w' ao g 0 cap rs ∧ (rs = [] ∨ ∃ cur fr, w'.heap[g]? = some (.cells cur 79 fr)) ∧ GoodU U (3 * d + 1) rs ∧ (∀ n, cof rs n = cof cs1 n + k * cof cs2 n) ∧ Below w.heap.size w w'
theorem csl_of_row2 {w : World} {base : Nat} {e : TypeId} {v : Value} {rs : List (List UInt8 × Rat)} (h : w.ownsRow base e 2 v rs.length (flat rs)) :
    ∃ ao g cap, v = .slice ao rs.length cap ∧ CSl w ao g 0 cap rs ∧ (rs = [] ∨ ∃ cur fr, w.heap[g]? = some (.cells cur e fr)) := by
 obtain ⟨ao, g, cap, rfl, hc, -⟩ := csl_of_row h;refine ⟨ao, g, cap, rfl, hc, ?_⟩;rcases h.2 with ⟨_, hn⟩ | ⟨g2, cap2, cur, hv, _, hg, hn, _⟩
 · exact .inl (List.length_eq_zero_iff.1 hn)
 · by_cases h0 : rs = []
   · exact .inl h0
   · have hpos : 0 < rs.length := List.length_pos_iff.2 h0;have had := hc.ad (by have := hc.le; omega);subst had;injection hv with h1 h2 h3;injection h1 with h1;injection h1 with h1;subst h1;exact .inr ⟨_, _, hg⟩
theorem zeroRV (w : World) : RV w (.agg #[.int .i64 0, .bool false, .slice none 0 0, .int .i64 0, .bool false, .slice none 0 0]) 0 :=
 ⟨0, false, none, 0, 0, 0, false, none, 0, 0, rfl, by rw [show (0 : Rat).num = 0 from rfl]; exact bx w, by rw [denI_one (show (0 : Rat).den = 1 from rfl)]; exact bx w⟩
/-- a coefficient is appended, not yet stored back -/
structure LA (w wx : World) (S : Nat) (s1 s2 : Int) (a1 a2 : Option Addr) (n1 c1 n2 c2 : Nat) (t1 t2 t3 : ByteArray) (x0 x1 x2 x3 x4 x5 : Value) (k : Rat) (v v' : Value) (r : List (List UInt8 × Rat)) : Prop where
 kb : KB w wx s1 s2 a1 a2 n1 c1 n2 c2 t1 t2 x0 x1 x2 x3 x4 x5 k
 hs : wx.heap[S]? = some (.cells #[.int .i64 s1, v, .string t3] 26 (0, 0))
 row : wx.ownsRow (S + 1) 79 2 v' r.length (flat r)
 sS : w.heap.size + 3 < S
theorem LS.grow {w wx : World} {S : Nat} {s1 s2 : Int} {a1 a2 : Option Addr} {n1 c1 n2 c2 : Nat} {t1 t2 t3 : ByteArray} {x0 x1 x2 x3 x4 x5 : Value} {k : Rat} {w1 : World} {v v' : Value} {r : List (List UInt8 × Rat)} {x : List UInt8 × Rat} (h : LS w wx S s1 s2 a1 a2 n1 c1 n2 c2 t1 t2 t3 x0 x1 x2 x3 x4 x5 k v r) (hg : wx.grownBy w1 v.ownBlock) (hr : w1.ownsRow (S + 1) 79 2 v' (r.length + 1) (flat r ++ [.string ⟨x.1.toArray⟩, .string (TX x.2)])) : LA w w1 S s1 s2 a1 a2 n1 c1 n2 c2 t1 t2 t3 x0 x1 x2 x3 x4 x5 k v v' (r ++ [x]) := by
 have h2 := h.sS;have hlt := ab h.hs;have hne : ∀ g, g ≤ S → some g ≠ v.ownBlock := fun g hgS e => by have := (h.row.lt g e.symm).1; omega
 have hbel : Below w.heap.size w w1 := h.kb.bel.grown hg h.kb.bel.size fun g e => by have := (h.row.lt g e).1; have := h.kb.lt; omega
 refine ⟨h.kb.kept (fun g hgs => hg.block g (by omega) (hne g (by omega))) (words_grown hg h.row) hbel, (hg.block S hlt (hne S (Nat.le_refl _))).trans h.hs, ?_, h2⟩;rw [List.length_append, flat_append];exact hr
theorem LA.far {w wx : World} {S : Nat} {s1 s2 : Int} {a1 a2 : Option Addr} {n1 c1 n2 c2 : Nat} {t1 t2 t3 : ByteArray} {x0 x1 x2 x3 x4 x5 : Value} {k : Rat} {w' : World} {v v' : Value} {r : List (List UInt8 × Rat)} (h : LA w wx S s1 s2 a1 a2 n1 c1 n2 c2 t1 t2 t3 x0 x1 x2 x3 x4 x5 k v v' r) (hb : Below wx.heap.size wx w') : LA w w' S s1 s2 a1 a2 n1 c1 n2 c2 t1 t2 t3 x0 x1 x2 x3 x4 x5 k v v' r :=
 ⟨h.kb.far hb, (hb.block _ (ab h.hs)).trans h.hs, row_same h.row fun g hg => hb.block _ (h.row.lt g hg).2, h.sS⟩
theorem LA.set {w wx : World} {S : Nat} {s1 s2 : Int} {a1 a2 : Option Addr} {n1 c1 n2 c2 : Nat} {t1 t2 t3 : ByteArray} {x0 x1 x2 x3 x4 x5 : Value} {k : Rat} {v v' : Value} {r : List (List UInt8 × Rat)} (h : LA w wx S s1 s2 a1 a2 n1 c1 n2 c2 t1 t2 t3 x0 x1 x2 x3 x4 x5 k v v' r) : LS w (wx.setCell ⟨S, 1, none⟩ v') S s1 s2 a1 a2 n1 c1 n2 c2 t1 t2 t3 x0 x1 x2 x3 x4 x5 k v' r := by
 have h2 := h.sS;have hl := h.kb.lt;have hset : ∀ g, g ≠ S → (wx.setCell ⟨S, 1, none⟩ v').heap[g]? = wx.heap[g]? := fun g hgS => Below.heap_setCell _ _ _ _ hgS
 refine ⟨h.kb.kept (fun g hgs => hset g (by omega)) (words_but h.hs (by decide) fun g _ hgS => hset g hgS) (h.kb.bel.setCell (show w.heap.size ≤ S by omega) _), ?_, ?_, h2⟩
 · have := heap_setCell_same wx S 1 _ _ v' h.hs;exact this
 · exact ownsRow_setCell_below h.row (a := ⟨S, 1, none⟩) (show S < S + 1 by omega) v'
theorem infoCoef : (Tryz.prog.info? 79).map (fun i => (i.zero, i.size, i.bytes)) = some (some (.agg #[.string ⟨#[]⟩, .string ⟨#[]⟩]), 2, 32) := by kernel_rfl
/-- the place of a name -/
def idx4 (l : List UInt8) : Nat := match l with
 | [117] => 0
 | [118] => 1
 | [120] => 2
 | _ => 3
theorem idx4_lt : ∀ a ∈ nm4, ∀ b ∈ nm4, ltB a b → idx4 a < idx4 b := by decide
theorem idx4_le : ∀ a ∈ nm4, idx4 a < 4 := by decide
theorem can_len_at {l : List (List UInt8 × Rat)} (h : Can ltB l) (hn : ∀ x ∈ l, x.1 ∈ nm4) : ∀ m, (∀ x ∈ l, m ≤ idx4 x.1) → l ≠ [] → l.length + m ≤ 4 := by
 induction l with
 | nil => exact fun _ _ h => absurd rfl h
 | cons x l ih =>
   obtain ⟨n, p⟩ := x;intro m hm _;have h0 : m ≤ idx4 n := hm (n, p) (by simp);have h1 := idx4_le n (hn (n, p) (by simp))
   by_cases hl : l = []
   · subst hl; simp; omega
   · have := ih h.2.2 (fun x hx => hn x (by simp [hx])) (idx4 n + 1) (fun x hx => idx4_lt n (hn (n, p) (by simp)) x.1 (hn x (by simp [hx])) (h.2.1 x hx)) hl;rw [List.length_cons]; omega
theorem can_len {l : List (List UInt8 × Rat)} (h : Can ltB l) (hn : ∀ x ∈ l, x.1 ∈ nm4) : l.length ≤ 4 := by
 by_cases hl : l = []
 · subst hl; simp
 · have := can_len_at h hn 0 (fun _ _ => Nat.zero_le _) hl; omega
section
set_option maxRecDepth 100000
set_option maxHeartbeats 16000000
theorem combine_okU {U : List (List UInt8)} {d : Nat} (w : World) (s1 s2 : Int) (cs1 cs2 : List (List UInt8 × Rat)) (p1 p2 k : Rat) (a1 : Option Addr) (g1 o1 c1 : Nat) (a2 : Option Addr) (g2 o2 c2 : Nat) (x0 x1 x2 x3 x4 x5 : Value) (hC1 : CSl w a1 g1 o1 c1 cs1) (hC2 : CSl w a2 g2 o2 c2 cs2) (hk : RV w (.agg #[x0, x1, x2, x3, x4, x5]) k) (dk : DS d k) (d1 : DS d p1) (d2 : DS d p2) (hg1 : GoodU U d cs1) (hg2 : GoodU U d cs2) (hU : U.length ≤ 16) (hd : d ≤ 700) (hE : Env w) :
    Calls Tryz.prog 52 #[.agg #[.int .i64 s1, .slice a1 cs1.length c1, .string (TX p1)], .agg #[.int .i64 s2, .slice a2 cs2.length c2, .string (TX p2)], .agg #[x0, x1, x2, x3, x4, x5]] w (CombU U w s1 d (p1 + k * p2) cs1 cs2 k) := by
 have HUL := hid hU;clear hU;obtain ⟨n1, hn1⟩ : ∃ n, cs1.length = n := ⟨_, rfl⟩
 obtain ⟨n2, hn2⟩ : ∃ n, cs2.length = n := ⟨_, rfl⟩
 rw [hn1, hn2];obtain ⟨m1, m2, m3, m4, mb⟩ := new4 w (.cells #[.int .i64 s1, .slice a1 n1 c1, .string (TX p1)] 26) (.cells #[.int .i64 s2, .slice a2 n2 c2, .string (TX p2)] 26) (.cells #[x0, x1, x2, x3, x4, x5] 85) (.cells #[.int .i64 0, .slice none 0 0, .string ⟨#[]⟩] 26);have hkb : KB w _ s1 s2 a1 a2 n1 c1 n2 c2 (TX p1) (TX p2) x0 x1 x2 x3 x4 x5 k := ⟨m1, m2, m3, m4, hk.far mb, mb⟩
 have HK0 := hid hkb;have HE := hid hE;have HC1 := hid hC1;have HC2 := hid hC2;have hma : ∀ W, Env W → Calls Tryz.prog 56 #[.string (TX p1)] W (GetsQ p1 W) := fun W hW => mustT d1 (by omega) W hW
 have hmb : ∀ W, Env W → Calls Tryz.prog 56 #[.string (TX p2)] W (GetsQ p2 W) := fun W hW => mustT d2 (by omega) W hW
 have hmul : ∀ W v u, RV W v k → RV W u p2 → Calls Tryz.prog 62 #[v, u] W (GetsQ (k * p2) W) := fun W v u hv hu => ratMul_any _ _ k p2 W hv hu (ds_rs (k := 100) dk (by omega)) (ds_rs (k := 100) d2 (by omega)) (by omega)
 have hadd : ∀ W v u, RV W v p1 → RV W u (k * p2) → Calls Tryz.prog 95 #[v, u] W (GetsQ (p1 + k * p2) W) := fun W v u hv hu => ratAdd_ok _ _ p1 (k * p2) W hv hu (ds_rs (k := 100) d1 (by omega)) (ds_rs (k := 200) (dk.mul d2) (by omega)) (by omega)
 have hstr : ∀ W v, Env W → RV W v (p1 + k * p2) → Calls Tryz.prog 94 #[v] W fun e w' => e = .returned (.string (TX (p1 + k * p2))) ∧ Below W.heap.size W w' := fun W v hW hv => ratString_any _ _ W hv hW (by have := Nmx.DS.parts (d1.add (dk.mul d2)); omega)
 have hmu : ∀ (i : Nat) (hi : i < cs1.length) W, Env W → Calls Tryz.prog 56 #[.string (TX cs1[i].2)] W (GetsQ cs1[i].2 W) := fun i hi W hW => mustT (hg1.ds _ (List.getElem_mem hi)) (by omega) W hW
 have hmv : ∀ (j : Nat) (hj : j < cs2.length) W, Env W → Calls Tryz.prog 56 #[.string (TX cs2[j].2)] W (GetsQ cs2[j].2 W) := fun j hj W hW => mustT (hg2.ds _ (List.getElem_mem hj)) (by omega) W hW
 have hml : ∀ (j : Nat) (hj : j < cs2.length) W v u, RV W v k → RV W u cs2[j].2 → Calls Tryz.prog 62 #[v, u] W (GetsQ (k * cs2[j].2) W) := fun j hj W v u hv hu => ratMul_any _ _ k cs2[j].2 W hv hu (ds_rs (k := 100) dk (by omega)) (ds_rs (k := 100) (hg2.ds _ (List.getElem_mem hj)) (by omega)) (by omega)
 have hal : ∀ (j : Nat) (hj : j < cs2.length) W v u q, DS d q → RV W v q → RV W u (k * cs2[j].2) → Calls Tryz.prog 95 #[v, u] W (GetsQ (q + k * cs2[j].2) W) := fun j hj W v u q dq hv hu => ratAdd_ok _ _ q (k * cs2[j].2) W hv hu (ds_rs (k := 100) dq (by omega)) (ds_rs (k := 200) (dk.mul (hg2.ds _ (List.getElem_mem hj))) (by omega)) (by omega)
 have hsl : ∀ W v q, Env W → DS (3 * d + 1) q → RV W v q → Calls Tryz.prog 94 #[v] W fun e w' => e = .returned (.string (TX q)) ∧ Below W.heap.size W w' := fun W v q hW dq hv => ratString_any _ _ W hv hW (by have := Nmx.DS.parts dq; omega)
 have DL : ∀ (i : Nat) (hi : i < cs1.length), DS (3 * d + 1) cs1[i].2 := fun i hi => (hg1.ds _ (List.getElem_mem hi)).mono (by omega)
 have DR : ∀ (j : Nat) (hj : j < cs2.length), DS (3 * d + 1) (k * cs2[j].2) := fun j hj => (dk.mul (hg2.ds _ (List.getElem_mem hj))).mono (by omega)
 have DB : ∀ (i : Nat) (hi : i < cs1.length) (j : Nat) (hj : j < cs2.length), DS (3 * d + 1) (cs1[i].2 + k * cs2[j].2) := fun i hi j hj => ((hg1.ds _ (List.getElem_mem hi)).add (dk.mul (hg2.ds _ (List.getElem_mem hj)))).mono (by omega)
 have HDL := hid DL;have HDR := hid DR;have HDB := hid DB;have HMU := hid hmu;have HMV := hid hmv;have HML := hid hml;have HAL := hid hal;have HSL := hid hsl;clear hkb m1 m2 m3 m4 mb hE hC1 hC2 hk dk d1 d2 hmu hmv hml hal hsl DL DR DB;generalize TX p1 = t1 at *;generalize TX p2 = t2 at *;generalize ht3 : TX (p1 + k * p2) = t3 at *;have HT3 := hid ht3;clear ht3
 go_enter Tryz.func52, Tryz.ntmps52
 go_upto_region 1 with fail
 generalize (((w.alloc (.cells #[.int .i64 s1, .slice a1 n1 c1, .string t1] 26)).alloc (.cells #[.int .i64 s2, .slice a2 n2 c2, .string t2] 26)).alloc (.cells #[x0, x1, x2, x3, x4, x5] 85)).alloc (.cells #[.int .i64 0, .slice none 0 0, .string ⟨#[]⟩] 26) = wb at *
 go_cut [7] (fun v wx => CB w (fun wx => KB w wx s1 s2 a1 a2 n1 c1 n2 c2 t1 t2 x0 x1 x2 x3 x4 x5 k) s1 t3 v wx)
 case first =>
  refine aF [[], [0], [], [2], [2, 3], [], [], [6], [2, 3, 4, 6, 7], [2, 3, 4, 5, 6, 7, 8], [2, 3, 4, 5, 6, 7, 8, 9], [2, 3, 4, 5, 6, 7, 8, 9, 10], [0, 1, 2, 3, 4, 5, 6, 7, 8, 9, 10, 11], [], [0, 1, 2, 3, 4, 5, 6, 7, 8, 9, 10, 11, 12, 13]] (fun W => KB w W s1 s2 a1 a2 n1 c1 n2 c2 t1 t2 x0 x1 x2 x3 x4 x5 k) (fun _ => True) ?_
  iterate 4
   apply aM
   · intro x; go_simp; done
   · intro x W R hW hF hR;obtain ⟨w0, w1, w2, w3, w4, w5, w6, w7, w8⟩ := KB.cells hW;clear hF;unfold ag
     go_simp
     simp only [ac];exact hR _ (Below.refl _ _)
   simp only [Act.put, List.setIfInBounds_toArray, List.set_cons_zero, List.set_cons_succ]
  refine ba (fun v W => RV W v (p1)) (fun _ _ _ h hb => h.far hb) ?_ ?_ ?_
  · intro x; go_simp; done
  · intro x W R hW hF hR;clear hF;unfold ag
    go_simp
    simp only [ac];refine (hma W (HE.out.far hW.bel)).mono ?_;rintro e w' ⟨v, rfl, hv, hb⟩;exact ⟨v, rfl, hR _ _ hv hb⟩
  simp only [Act.put, List.setIfInBounds_toArray, List.set_cons_zero, List.set_cons_succ, List.length_cons, List.length_nil, Nat.zero_add, Nat.reduceAdd]
  iterate 3
   apply aM
   · intro x; go_simp; done
   · intro x W R hW hF hR;obtain ⟨w0, w1, w2, w3, w4, w5, w6, w7, w8⟩ := KB.cells hW;clear hF;unfold ag
     go_simp
     simp only [ac];exact hR _ (Below.refl _ _)
   simp only [Act.put, List.setIfInBounds_toArray, List.set_cons_zero, List.set_cons_succ]
  refine ba (fun v W => RV W v (p2)) (fun _ _ _ h hb => h.far hb) ?_ ?_ ?_
  · intro x; go_simp; done
  · intro x W R hW hF hR;clear hF;unfold ag
    go_simp
    simp only [ac];refine (hmb W (HE.out.far hW.bel)).mono ?_;rintro e w' ⟨v, rfl, hv, hb⟩;exact ⟨v, rfl, hR _ _ hv hb⟩
  simp only [Act.put, List.setIfInBounds_toArray, List.set_cons_zero, List.set_cons_succ, List.length_cons, List.length_nil, Nat.zero_add, Nat.reduceAdd];refine ba (fun v W => RV W v (k * p2)) (fun _ _ _ h hb => h.far hb) ?_ ?_ ?_
  · intro x; go_simp; done
  · intro x W R hW hF hR;obtain hy := hF.1.2 rfl rfl rfl;unfold ag
    go_simp
    simp only [ac];refine (hmul W _ _ hW.kv hy).mono ?_;rintro e w' ⟨v, rfl, hv, hb⟩;exact ⟨v, rfl, hR _ _ hv hb⟩
  simp only [Act.put, List.setIfInBounds_toArray, List.set_cons_zero, List.set_cons_succ, List.length_cons, List.length_nil, Nat.zero_add, Nat.reduceAdd];refine ba (fun v W => RV W v (p1 + k * p2)) (fun _ _ _ h hb => h.far hb) ?_ ?_ ?_
  · intro x; go_simp; done
  · intro x W R hW hF hR;obtain hz := hF.1.2 rfl rfl rfl;obtain hy := hF.2.2.2.2.2.1.2 rfl rfl rfl;unfold ag
    go_simp
    simp only [ac];refine (hadd W _ _ hy hz).mono ?_;rintro e w' ⟨v, rfl, hv, hb⟩;exact ⟨v, rfl, hR _ _ hv hb⟩
  simp only [Act.put, List.setIfInBounds_toArray, List.set_cons_zero, List.set_cons_succ, List.length_cons, List.length_nil, Nat.zero_add, Nat.reduceAdd];apply aM
  · intro x; go_simp; done
  · intro x W R hW hF hR;obtain hz := hF.1.2 rfl rfl rfl;unfold ag
    go_simp
    simp only [ac];refine (hstr W _ (HE.out.far hW.bel) hz).mono ?_;rintro e w' ⟨rfl, hb⟩;exact ⟨_, rfl, hR _ hb⟩
  simp only [Act.put, List.setIfInBounds_toArray, List.set_cons_zero, List.set_cons_succ];apply aM
  · intro x; go_simp; done
  · intro x W R hW hF hR;clear hF;unfold ag
    go_simp
    simp only [ac];exact hR _ (Below.refl _ _)
  simp only [Act.put, List.setIfInBounds_toArray, List.set_cons_zero, List.set_cons_succ];refine ba (fun v W => ∃ S, v = .pointer (some ⟨S, 0, none⟩) ∧ w.heap.size + 3 < S ∧ W.heap[S]? = some (.cells #[.int .i64 0, .slice none 0 0, .string ⟨#[]⟩] 26 (0, 0))) (fun _ _ _ h hb => let ⟨S, h1, h2, h3⟩ := h; ⟨S, h1, h2, (hb.block _ (ab h3)).trans h3⟩) ?_ ?_ ?_
  · intro x; go_simp; done
  · intro x W R hW hF hR;clear hF;unfold ag
    go_simp
    simp only [ac];exact hR _ _ ⟨W.heap.size, rfl, hW.lt, heap_alloc_new _ _⟩ ((Below.refl _ _).alloc (Nat.le_refl _) _)
  simp only [Act.put, List.setIfInBounds_toArray, List.set_cons_zero, List.set_cons_succ, List.length_cons, List.length_nil, Nat.zero_add, Nat.reduceAdd];refine a_wrt (fun x W => ∃ S, x 13 = .pointer (some ⟨S, 0, none⟩) ∧ w.heap.size + 3 < S ∧ W.heap[S]? = some (.cells #[.int .i64 s1, .slice none 0 0, .string t3] 26 (0, 0)) ∧ KB w W s1 s2 a1 a2 n1 c1 n2 c2 t1 t2 x0 x1 x2 x3 x4 x5 k) (fun _ _ _ h hb => let ⟨S, h1, h2, h3, h4⟩ := h; ⟨S, h1, h2, (hb.block _ (ab h3)).trans h3, h4.far hb⟩) (fun x x' w h hT => let ⟨S, h1, h2, h3, h4⟩ := hT; ⟨S, (h 13 (.inr (List.contains_iff_mem.1 rfl))).symm.trans h1, h2, h3, h4⟩) ?_ ?_ ?_
  · intro x; go_simp; done
  · intro x W R hW hF hD hR;obtain ⟨S, hx, hlt, hS⟩ := hF.1.2 rfl rfl rfl;simp only [hx];have y0 := aa hS 0;have y1 := aa hS 1;have y2 := aa hS 2;have fr := fun i => ah hS i
    clear hF;unfold ag
    go_simp
    simp only [ac];exact hR _ _ ⟨S, (aJ (i := 14) (j := 13) _ _ (by decide)).trans hx, hlt, aU hS, KB.st hW hS hlt _ _ _⟩ trivial (by simp [World.setCell])
  simp only [Act.put];refine a_nil (by kernel_rfl) (by kernel_rfl) (by kernel_rfl) (fun _ _ h hb => h.far hb) (fun _ _ _ _ => trivial) (fun _ _ => trivial) (HK0.out.drew) ?_;intro x W hE hW hF hD;clear hD;obtain ⟨S, hx, hlt, hS, hK⟩ := hF.1.2 rfl;clear hF hW
  go_wp2_with fail
  go_meet
  exact ⟨S, hx, hlt, hS, hK⟩
 case rest =>
  obtain ⟨S, rfl, hS, hs, hkb⟩ := hcut;have HL := hid (⟨hkb, hs, World.ownsRow_nil _ _ _ _, hS⟩ : LS w wc S s1 s2 a1 a2 n1 c1 n2 c2 t1 t2 t3 x0 x1 x2 x3 x4 x5 k (.slice none 0 0) []);clear hkb hs hma hmb hmul hadd hstr
  go_wp2_with fail
  go_loopg [8, 9] (n1 + n2) (fun gh v8 v9 wr => ∃ (i j : Nat) (r : List (List UInt8 × Rat)) (v : Value), gh = n1 + n2 - (i + j) ∧ i ≤ n1 ∧ j ≤ n2 ∧ v8 = .int .i64 i ∧ v9 = .int .i64 j ∧ CS (3 * d + 1) k cs1 cs2 r i j ∧ LS w wr S s1 s2 a1 a2 n1 c1 n2 c2 t1 t2 t3 x0 x1 x2 x3 x4 x5 k v r)
  case atStart => exact ⟨0, 0, [], .slice none 0 0, rfl, Nat.zero_le _, Nat.zero_le _, rfl, rfl, CS.start hg1.can hg2.can, HL.out⟩
  case round =>
   obtain ⟨i, j, r, v, rfl, hi, hj, rfl, rfl, hcs, hls⟩ := hrel;have HR := hid hls;have HCS := hid hcs;have q0 := aa hls.kb.a 1;have q1 := aa hls.kb.b 1;have hi0 : (0 : Int) ≤ (i : Int) := by omega
   have hj0 : (0 : Int) ≤ (j : Int) := by omega
   clear hls hcs HL
   go_step
   go_cut [26] (fun _ wx => wx = wr ∧ (i < n1 ∨ j < n2))
   case first =>
    by_cases hA : i < n1
    · have hA' : (i : Int) < (n1 : Int) := by omega
      go_wp2_with fail
      go_meet
      exact ⟨rfl, .inl hA⟩
    · by_cases hB : j < n2
      · have hB' : (j : Int) < (n2 : Int) := by omega
        have hA' : ¬ ((i : Int) < (n1 : Int)) := by omega
        go_wp2_with fail
        go_meet
        exact ⟨rfl, .inr hB⟩
      · have hB' : ¬ ((j : Int) < (n2 : Int)) := by omega
        have hA' : ¬ ((i : Int) < (n1 : Int)) := by omega
        obtain ⟨ao, g, cap, rfl, hcsl, -⟩ := csl_of_row HR.out.row;have HCL := hid hcsl;clear hcsl;have s0 := aa HR.out.hs 0;have s1' := aa HR.out.hs 1;have s2' := aa HR.out.hs 2;have f0 := aa HR.out.kb.r 0;have f1 := aa HR.out.kb.r 1;have f2 := aa HR.out.kb.r 2;have fr := fun i => ah HR.out.kb.r i
        go_wp2_with fail
        have hsl := HR.out.kb.lt;refine end_lin rfl rfl rfl HR.out.kb.r ?_;obtain rfl : i = cs1.length := by omega
        obtain rfl : j = cs2.length := by omega
        obtain ⟨hcan, hcof⟩ := HCS.out.stop;have ho : ∀ g', g' ≠ w.heap.size + 3 → (((wr.setCell ⟨w.heap.size + 3, 0, none⟩ (.int .i64 s1)).setCell ⟨w.heap.size + 3, 1, none⟩ (.slice ao r.length cap)).setCell ⟨w.heap.size + 3, 2, none⟩ (.string t3)).heap[g']? = wr.heap[g']? := fun g' hg => aj _ _ _ hg
        have hrow := row_same (w' := ((wr.setCell ⟨w.heap.size + 3, 0, none⟩ (.int .i64 s1)).setCell ⟨w.heap.size + 3, 1, none⟩ (.slice ao r.length cap)).setCell ⟨w.heap.size + 3, 2, none⟩ (.string t3)) HR.out.row fun g' hg => ho g' (by have := (HR.out.row.lt g' hg).1; have := HR.out.sS; omega)
        obtain ⟨ao', g', cap', hv, hcs', hty⟩ := csl_of_row2 hrow
        have hgood : GoodU U (3 * d + 1) r := ⟨hcan, fun x hx => by
         rcases HCS.out.nm x hx with h1 | h1
         · obtain ⟨y, hy, he⟩ := List.mem_map.1 h1;rw [← he]; exact hg1.nm y hy
         · obtain ⟨y, hy, he⟩ := List.mem_map.1 h1
           rw [← he]; exact hg2.nm y hy, HCS.out.ds⟩
        refine ⟨r, ao, g', cap, ?_, ?_, hty, hgood, hcof, ?_⟩
        · rw [HT3.out]
        · cases hv; exact hcs'
        · exact ((HR.out.kb.bel.setCell (show w.heap.size ≤ w.heap.size + 3 by omega) _).setCell (show w.heap.size ≤ w.heap.size + 3 by omega) _).setCell (show w.heap.size ≤ w.heap.size + 3 by omega) _
   case rest =>
    obtain ⟨hw, hor⟩ := hcut;obtain rfl := hw.symm
    go_upto_block 2 with fail
    go_cut [10] (fun v10 wx => ∃ (o : Int) (nd : Nat), v10 = .int .i64 o ∧ OF cs1 cs2 i j o ∧ wx = wr.drewN nd)
    case first =>
     by_cases hA : i < n1
     · have hA' : (i : Int) < (n1 : Int) := by omega
       have hAn : ¬ ((i : Int) = (n1 : Int)) := by omega
       by_cases hB : j < n2
       · have hB' : (j : Int) < (n2 : Int) := by omega
         have hBn : ¬ ((j : Int) = (n2 : Int)) := by omega
         have hle1 := HC1.out.le;have hle2 := HC2.out.le;have hmost1 := HC1.out.most;have hmost2 := HC2.out.most;have had1 := HC1.out.ad (by omega);have had2 := HC2.out.ad (by omega);subst had1;subst had2;have c0 := (HC1.out.far HR.out.kb.bel).nm i (by omega);have c1' := (HC2.out.far HR.out.kb.bel).nm j (by omega);have hcm := fun W => strCmp_any (⟨cs1[i].1.toArray⟩ : ByteArray) ⟨cs2[j].1.toArray⟩ W
         have hcc := cmpB_cases cs1[i].1 cs2[j].1;rw [show (⟨cs1[i].1.toArray⟩ : ByteArray).data.toList = cs1[i].1 from rfl, show (⟨cs2[j].1.toArray⟩ : ByteArray).data.toList = cs2[j].1 from rfl] at hcm;obtain ⟨o, ho⟩ : ∃ o : Int, compareBytes cs1[i].1 cs2[j].1 = o := ⟨_, rfl⟩
         rw [ho] at hcm
         have hof : OF cs1 cs2 i j o := by
          rcases hcc with ⟨h1, h2, h3⟩ | ⟨h1, h2⟩ | ⟨h1, h2, h3⟩
          · exact .inl ⟨by omega, by omega, fun _ => h1⟩
          · exact .inr (.inl ⟨by omega, by omega, by omega, h2⟩)
          · exact .inr (.inr ⟨by omega, by omega, fun _ => h2⟩)
         have HOF := hid hof;clear hcc ho hof;generalize (⟨cs1[i].1.toArray⟩ : ByteArray) = tn1 at *;generalize (⟨cs2[j].1.toArray⟩ : ByteArray) = tn2 at *
         go_wp2_with fail
         go_quiet ((go_at_call 101; exact Calls.quiet_of_same (hcm _)))
         go_wp2_with fail
         go_meet
         exact ⟨o, _, rfl, HOF.out, rfl⟩
       · have hBn : decide ((j : Int) = (n2 : Int)) = true := decide_eq_true (by omega);have hBm : ((j : Int) == (n2 : Int)) = true := by rw [beq_iff_eq]; omega
         have hjn : j = n2 := by omega
         have HJN := hid hjn;clear hjn hB hor
         go_wp2_with fail
         go_meet
         exact ⟨-1, 0, rfl, .inl ⟨rfl, by omega, fun h => absurd h (by have := HJN.out; omega)⟩, rfl⟩
     · have hAn : decide ((i : Int) = (n1 : Int)) = true := decide_eq_true (by omega);have hAm : ((i : Int) == (n1 : Int)) = true := by rw [beq_iff_eq]; omega
       have hin : i = n1 := by omega
       have HIN := hid hin;have hjn : j < n2 := by omega
       have HJN := hid hjn;clear hin hA hor hjn
       go_wp2_with fail
       go_meet
       exact ⟨1, 0, rfl, .inr (.inr ⟨rfl, by have := HJN.out; omega, fun h => absurd h (by have := HIN.out; omega)⟩), rfl⟩
    case rest =>
     obtain ⟨o, nd, rfl, hof, rfl⟩ := hcut;have HO := hid hof;have HR2 := hid (HR.out.far (aw (Below.refl _ _) nd));clear hof q0 q1;generalize wr.drewN nd = wd at *;have hnum := HR2.out.num (zeroRV wd);have HN := hid hnum;clear hnum
     go_upto_if 64 with fail
     generalize wd.alloc (.cells #[.int .i64 0, .bool false, .slice none 0 0, .int .i64 0, .bool false, .slice none 0 0] 85) = we at *;generalize wd.heap.size = N at *
     go_cut [8, 11] (IF1 (fun wx q => ∃ y0 y1 y2 y3 y4 y5, MS w wx S N s1 s2 a1 a2 n1 c1 n2 c2 t1 t2 t3 x0 x1 x2 x3 x4 x5 k v r y0 y1 y2 y3 y4 y5 q) cs1 i o)
     case first =>
      by_cases ho : o ≤ 0
      · have hi' : i < cs1.length := by
          rcases HO.out with ⟨_, h, _⟩ | ⟨_, h, _⟩ | ⟨h, _⟩
          · exact h
          · exact h
          · omega
        have hi'' : i < n1 := by omega
        have hA' : (i : Int) < (n1 : Int) := by omega
        have hle1 := HC1.out.le;have hmost1 := HC1.out.most;have had1 := HC1.out.ad (by omega);have HAD1 := hid had1;clear had1;have hmu := HMU.out i hi';obtain ⟨tn, htn⟩ : ∃ tn : ByteArray, ⟨cs1[i].1.toArray⟩ = tn := ⟨_, rfl⟩
        have HT0 := hid htn;obtain ⟨tq, htq⟩ : ∃ tq : ByteArray, TX cs1[i].2 = tq := ⟨_, rfl⟩
        have HT1 := hid htq;rw [htq] at hmu;clear htn htq;have ho' : decide (o ≤ 0) = true := decide_eq_true ho
        go_wp2_with fail
        refine aF [[], [0], [], [0, 1, 2], [0, 1, 2, 3], [0, 1, 2, 3, 4], [], [6], [], [6, 7, 8], [6, 7, 8, 9], [6, 7, 8, 9, 10], [6, 7, 8, 9, 10, 11], [0, 1, 2, 3, 4, 5, 6, 7, 8, 9, 10, 11, 12], [0, 1, 2, 3, 4, 5, 6, 7, 8, 9, 10, 11, 12, 13]] (fun W => MS w W S N s1 s2 a1 a2 n1 c1 n2 c2 t1 t2 t3 x0 x1 x2 x3 x4 x5 k v r (.int .i64 0) (.bool false) (.slice none 0 0) (.int .i64 0) (.bool false) (.slice none 0 0) 0) (fun _ => True) ?_
        iterate 12
         apply aM
         · intro x; go_simp; done
         · intro x W R hW hF hR;have q0 := aa hW.ls.kb.a 1;rw [HAD1.out] at q0;have p0 := (HC1.out.far hW.ls.kb.bel).nm i hi';have p1' := (HC1.out.far hW.ls.kb.bel).nu i hi';rw [HT0.out] at p0;rw [HT1.out] at p1';clear hF;unfold ag
           go_simp
           simp only [ac];exact hR _ (Below.refl _ _)
         simp only [Act.put, List.setIfInBounds_toArray, List.set_cons_zero, List.set_cons_succ]
        refine ba (fun v W => RV W v (cs1[i].2)) (fun _ _ _ h hb => h.far hb) ?_ ?_ ?_
        · intro x; go_simp; done
        · intro x W R hW hF hR;clear hF;unfold ag
          go_simp
          simp only [ac];refine (hmu W (HE.out.far hW.ls.kb.bel)).mono ?_;rintro e w' ⟨v, rfl, hv, hb⟩;exact ⟨v, rfl, hR _ _ hv hb⟩
        simp only [Act.put, List.setIfInBounds_toArray, List.set_cons_zero, List.set_cons_succ, List.length_cons, List.length_nil, Nat.zero_add, Nat.reduceAdd];apply aM
        · intro x; go_simp; done
        · intro x W R hW hF hR;clear hF;unfold ag
          go_simp
          simp only [ac];exact hR _ (Below.refl _ _)
        simp only [Act.put, List.setIfInBounds_toArray, List.set_cons_zero, List.set_cons_succ];refine a_wrt (fun _ W => ∃ y0 y1 y2 y3 y4 y5, MS w W S N s1 s2 a1 a2 n1 c1 n2 c2 t1 t2 t3 x0 x1 x2 x3 x4 x5 k v r y0 y1 y2 y3 y4 y5 cs1[i].2) (fun _ _ _ h hb => let ⟨_, _, _, _, _, _, h⟩ := h; ⟨_, _, _, _, _, _, h.far hb⟩) (fun _ _ _ _ h => h) ?_ ?_ ?_
        · intro x; go_simp; done
        · intro x W R hW hF hD hR;have hy := hF.2.1.2 rfl rfl rfl;simp only [AK.fact] at hy;obtain ⟨s', b', ao', n', c', s'', b'', ao'', n'', c'', hx, -, -⟩ := aR hy;rw [hx] at hy;simp only [hx];have z0 := aa hW.nn 0;have z1 := aa hW.nn 1;have z2 := aa hW.nn 2;have z3 := aa hW.nn 3;have z4 := aa hW.nn 4;have z5 := aa hW.nn 5;have fr := fun i => ah hW.nn i
          clear hF;unfold ag
          go_simp
          simp only [ac];exact hR _ _ ⟨_, _, _, _, _, _, hW.put hy⟩ trivial (by simp [World.setCell])
        simp only [Act.put];refine a_nil (by kernel_rfl) (by kernel_rfl) (by kernel_rfl) (fun _ _ h hb => h.far hb) (fun _ _ _ _ => trivial) (fun _ _ => trivial) (⟨HN.out.ls.far (Below.refl _ _).drew, HN.out.nn, HN.out.rv.drew, HN.out.sN, HN.out.gN⟩) ?_;intro x W hE hW hF hD;clear hD;obtain ⟨y0, y1, y2, y3, y4, y5, hms⟩ := hF.1.2 rfl;have HM := hid hms;clear hF hW hms
        go_wp2_with fail
        go_meet
        exact ⟨i + 1, cs1[i].1, cs1[i].2, by go_num, by rw [HT0.out], ⟨_, _, _, _, _, _, HM.out⟩, .inl ⟨ho, rfl, hi', rfl, rfl⟩⟩
      · have ho' : decide (o ≤ 0) = false := decide_eq_false ho
        go_wp2_with fail
        go_meet
        exact ⟨i, [], 0, rfl, rfl, ⟨_, _, _, _, _, _, HN.out⟩, .inr ⟨by omega, rfl, rfl⟩⟩
     case rest =>
      obtain ⟨i', nm, q, rfl, rfl, ⟨y0, y1, y2, y3, y4, y5, hms⟩, hq⟩ := hcut;have HM := hid hms;have HQ := hid hq;clear hms hq
      go_upto_if 81 with fail
      go_cut [9, 11] (IF2 (fun wx q => ∃ y0 y1 y2 y3 y4 y5, MS w wx S N s1 s2 a1 a2 n1 c1 n2 c2 t1 t2 t3 x0 x1 x2 x3 x4 x5 k v r y0 y1 y2 y3 y4 y5 q) (3 * d + 1) k cs1 cs2 r i' (i + j))
      case first =>
       by_cases ho : 0 ≤ o
       · have hj' : j < cs2.length := by
           rcases HO.out with ⟨h, _⟩ | ⟨_, _, h, _⟩ | ⟨_, h, _⟩
           · omega
           · exact h
           · exact h
         have hj'' : j < n2 := by omega
         have hB' : (j : Int) < (n2 : Int) := by omega
         have hle2 := HC2.out.le;have hmost2 := HC2.out.most;have had2 := HC2.out.ad (by omega);have HAD2 := hid had2;clear had2;have hmv := HMV.out j hj';have hml := HML.out j hj';have hal := HAL.out j hj'
         have hdq : DS d q := by
          rcases HQ.out with ⟨-, -, hi', -, rfl⟩ | ⟨-, -, rfl⟩
          · exact hg1.ds _ (List.getElem_mem hi')
          · exact DS.zero d
         obtain ⟨tn, htn⟩ : ∃ tn : ByteArray, ⟨cs2[j].1.toArray⟩ = tn := ⟨_, rfl⟩
         have HT0 := hid htn;obtain ⟨tq, htq⟩ : ∃ tq : ByteArray, TX cs2[j].2 = tq := ⟨_, rfl⟩
         have HT1 := hid htq;rw [htq] at hmv;clear htn htq;have ho' : decide (0 ≤ o) = true := decide_eq_true ho
         go_wp2_with fail
         refine aF [[], [0], [], [0, 1, 2], [0, 1, 2, 3], [0, 1, 2, 3, 4], [], [], [], [8], [], [8, 9, 10], [8, 9, 10, 11], [8, 9, 10, 11, 12], [8, 9, 10, 11, 12, 13], [7, 8, 9, 10, 11, 12, 13, 14], [6, 7, 8, 9, 10, 11, 12, 13, 14, 15], [0, 1, 2, 3, 4, 5, 6, 7, 8, 9, 10, 11, 12, 13, 14, 15, 16], [0, 1, 2, 3, 4, 5, 6, 7, 8, 9, 10, 11, 12, 13, 14, 15, 16, 17]] (fun W => MS w W S N s1 s2 a1 a2 n1 c1 n2 c2 t1 t2 t3 x0 x1 x2 x3 x4 x5 k v r y0 y1 y2 y3 y4 y5 q) (fun _ => True) ?_
         iterate 14
          apply aM
          · intro x; go_simp; done
          · intro x W R hW hF hR;have q0 := aa hW.ls.kb.b 1;rw [HAD2.out] at q0;have p0 := (HC2.out.far hW.ls.kb.bel).nm j hj';have p1' := (HC2.out.far hW.ls.kb.bel).nu j hj';rw [HT0.out] at p0;rw [HT1.out] at p1';have z0 := aa hW.nn 0;have z1 := aa hW.nn 1;have z2 := aa hW.nn 2;have z3 := aa hW.nn 3;have z4 := aa hW.nn 4;have z5 := aa hW.nn 5;obtain ⟨-, -, -, w3, w4, w5, w6, w7, w8⟩ := KB.cells hW.ls.kb;clear hF;unfold ag
            go_simp
            simp only [ac];exact hR _ (Below.refl _ _)
          simp only [Act.put, List.setIfInBounds_toArray, List.set_cons_zero, List.set_cons_succ]
         refine ba (fun v W => RV W v (cs2[j].2)) (fun _ _ _ h hb => h.far hb) ?_ ?_ ?_
         · intro x; go_simp; done
         · intro x W R hW hF hR;clear hF;unfold ag
           go_simp
           simp only [ac];refine (hmv W (HE.out.far hW.ls.kb.bel)).mono ?_;rintro e w' ⟨v, rfl, hv, hb⟩;exact ⟨v, rfl, hR _ _ hv hb⟩
         simp only [Act.put, List.setIfInBounds_toArray, List.set_cons_zero, List.set_cons_succ, List.length_cons, List.length_nil, Nat.zero_add, Nat.reduceAdd];refine ba (fun v W => RV W v (k * cs2[j].2)) (fun _ _ _ h hb => h.far hb) ?_ ?_ ?_
         · intro x; go_simp; done
         · intro x W R hW hF hR;obtain hy := hF.1.2 rfl rfl rfl;unfold ag
           go_simp
           simp only [ac];refine (hml W _ _ hW.ls.kb.kv hy).mono ?_;rintro e w' ⟨v, rfl, hv, hb⟩;exact ⟨v, rfl, hR _ _ hv hb⟩
         simp only [Act.put, List.setIfInBounds_toArray, List.set_cons_zero, List.set_cons_succ, List.length_cons, List.length_nil, Nat.zero_add, Nat.reduceAdd];refine ba (fun v W => RV W v (q + k * cs2[j].2)) (fun _ _ _ h hb => h.far hb) ?_ ?_ ?_
         · intro x; go_simp; done
         · intro x W R hW hF hR;obtain hy := hF.1.2 rfl rfl rfl;unfold ag
           go_simp
           simp only [ac];refine (hal W _ _ _ hdq hW.rv hy).mono ?_;rintro e w' ⟨v, rfl, hv, hb⟩;exact ⟨v, rfl, hR _ _ hv hb⟩
         simp only [Act.put, List.setIfInBounds_toArray, List.set_cons_zero, List.set_cons_succ, List.length_cons, List.length_nil, Nat.zero_add, Nat.reduceAdd];apply aM
         · intro x; go_simp; done
         · intro x W R hW hF hR;clear hF;unfold ag
           go_simp
           simp only [ac];exact hR _ (Below.refl _ _)
         simp only [Act.put, List.setIfInBounds_toArray, List.set_cons_zero, List.set_cons_succ];refine a_wrt (fun _ W => ∃ y0 y1 y2 y3 y4 y5, MS w W S N s1 s2 a1 a2 n1 c1 n2 c2 t1 t2 t3 x0 x1 x2 x3 x4 x5 k v r y0 y1 y2 y3 y4 y5 (q + k * cs2[j].2)) (fun _ _ _ h hb => let ⟨_, _, _, _, _, _, h⟩ := h; ⟨_, _, _, _, _, _, h.far hb⟩) (fun _ _ _ _ h => h) ?_ ?_ ?_
         · intro x; go_simp; done
         · intro x W R hW hF hD hR;have hy := hF.2.1.2 rfl rfl rfl;simp only [AK.fact] at hy;obtain ⟨s', b', ao', n', c', s'', b'', ao'', n'', c'', hx, -, -⟩ := aR hy;rw [hx] at hy;simp only [hx];have z0 := aa hW.nn 0;have z1 := aa hW.nn 1;have z2 := aa hW.nn 2;have z3 := aa hW.nn 3;have z4 := aa hW.nn 4;have z5 := aa hW.nn 5;have fr := fun i => ah hW.nn i
           clear hF;unfold ag
           go_simp
           simp only [ac];exact hR _ _ ⟨_, _, _, _, _, _, hW.put hy⟩ trivial (by simp [World.setCell])
         simp only [Act.put];refine a_nil (by kernel_rfl) (by kernel_rfl) (by kernel_rfl) (fun _ _ h hb => h.far hb) (fun _ _ _ _ => trivial) (fun _ _ => trivial) (⟨HM.out.ls.far (Below.refl _ _).drew, HM.out.nn, HM.out.rv.drew, HM.out.sN, HM.out.gN⟩) ?_;intro x W hE hW hF hD;clear hD;obtain ⟨z0, z1, z2, z3, z4, z5, hms⟩ := hF.1.2 rfl;have HM2 := hid hms;clear hF hW hms
         go_wp2_with fail
         go_meet
         refine ⟨j + 1, cs2[j].1, q + k * cs2[j].2, by go_num, by rw [HT0.out], ⟨_, _, _, _, _, _, HM2.out⟩, ?_⟩;rcases HO.out with ⟨h, -⟩ | ⟨h1, hi', _, he⟩ | ⟨h1, _, hlt⟩
         · omega
         · rcases HQ.out with ⟨-, rfl, -, rfl, rfl⟩ | ⟨h, -⟩
           · exact ⟨by omega, by omega, by omega, HCS.out.both hi' hj' he (HDB.out i hi' j hj')⟩
           · omega
         · rcases HQ.out with ⟨h, -⟩ | ⟨-, rfl, rfl⟩
           · omega
           · rw [Rat.zero_add];exact ⟨by omega, by omega, by omega, HCS.out.right hj' hlt (HDR.out j hj')⟩
       · have ho' : decide (0 ≤ o) = false := decide_eq_false ho
         go_wp2_with fail
         go_meet
         refine ⟨j, nm, q, rfl, rfl, ⟨_, _, _, _, _, _, HM.out⟩, ?_⟩;rcases HO.out with ⟨h, hi', hlt⟩ | ⟨h, -⟩ | ⟨h, -⟩
         · rcases HQ.out with ⟨-, rfl, -, rfl, rfl⟩ | ⟨h, -⟩
           · exact ⟨by omega, by omega, by omega, HCS.out.left hi' hlt (HDL.out i hi')⟩
           · omega
         · omega
         · omega
      case rest =>
       obtain ⟨j', nm, q, rfl, rfl, ⟨y0, y1, y2, y3, y4, y5, hms⟩, hi2, hj2, hlt2, hcs2⟩ := hcut;have HM2 := hid hms;have HCS2 := hid hcs2;clear hms hcs2;have z0 := aa HM2.out.nn 0;have z1 := aa HM2.out.nn 1;have z2 := aa HM2.out.nn 2;have z3 := aa HM2.out.nn 3;have z4 := aa HM2.out.nn 4;have z5 := aa HM2.out.nn 5;have hiz := fun W (h : RV W (.agg #[y0, y1, y2, y3, y4, y5]) q) => ratIsZero_any _ q W h
       obtain ⟨z, hz⟩ : ∃ z, q.num = z := ⟨_, rfl⟩
       rw [hz] at hiz;have HZ := hid hz;clear hz
       by_cases hz0' : z = 0
       · have hzd : decide (z = 0) = true := decide_eq_true hz0';rw [hzd] at hiz;have hq0 : q = 0 := Rat.num_eq_zero.1 (by rw [HZ.out]; exact hz0');have HQ0 := hid hq0;clear hq0 hz0' hzd
         go_wp2_with fail
         refine (hiz _ HM2.out.rv).mono ?_;rintro e w1 ⟨rfl, hb1⟩;have HM3 := hid (HM2.out.far hb1);clear hb1 hiz
         go_wp2_with fail
         go_roundg (n1 + n2 - (i' + j'))
         case rel =>
          refine ⟨i', j', r, v, rfl, by omega, by omega, rfl, rfl, ?_, HM3.out.ls⟩;have := HCS2.out;rwa [if_pos HQ0.out] at this
         case measure => omega
       · have hzd : decide (z = 0) = false := decide_eq_false hz0';rw [hzd] at hiz;have hq0 : ¬ q = 0 := fun e => hz0' (by rw [← HZ.out, e]; rfl)
         have hdq : DS (3 * d + 1) q := by
          have := HCS2.out.ds;rw [if_neg hq0] at this;exact this (nm, q) (by simp)
         have hrl : r.length ≤ 16 := Nat.le_trans (can_lenU HCS.out.cm.cr U fun x hx => by
          rcases HCS.out.nm x hx with h1 | h1
          · obtain ⟨y, hy, he⟩ := List.mem_map.1 h1;rw [← he]; exact hg1.nm y hy
          · obtain ⟨y, hy, he⟩ := List.mem_map.1 h1
            rw [← he]; exact hg2.nm y hy) HUL.out
         have hsl := HSL.out;obtain ⟨i0, hi0', hz0, hz1, hz2⟩ := info_parts infoCoef;obtain ⟨tn, htn⟩ : ∃ tn : ByteArray, ⟨nm.toArray⟩ = tn := ⟨_, rfl⟩
         rw [htn];have HT0 := hid htn;obtain ⟨tq, htq⟩ : ∃ tq : ByteArray, TX q = tq := ⟨_, rfl⟩
         have HT1 := hid htq;have hsl := fun W v hE hv => hsl W v q hE hdq hv
         rw [htq] at hsl;clear htn htq hz0' hzd;have HQ0 := hid hq0;clear hq0
         go_wp2_with fail
         refine (hiz _ HM2.out.rv).mono ?_;rintro e w1 ⟨rfl, hb1⟩;have HM3 := hid (HM2.out.far hb1);clear hb1 hiz z0 z1 z2 z3 z4 z5
         go_wp2_with fail
         refine aF [[], [0], [], [], [3], [2, 3, 4], [2, 3, 4, 5], [0, 1, 2, 3, 4, 5, 6], [0, 1, 2, 3, 4, 5, 6, 7], [0, 1, 2, 3, 4, 5, 6, 7, 8]] (fun W => MS w W S N s1 s2 a1 a2 n1 c1 n2 c2 t1 t2 t3 x0 x1 x2 x3 x4 x5 k v r y0 y1 y2 y3 y4 y5 q) (fun _ => True) ?_
         iterate 4
          apply aM
          · intro x; go_simp; done
          · intro x W R hW hF hR;have e1 := aa hW.ls.hs 1;have z0 := aa hW.nn 0;have z1 := aa hW.nn 1;have z2 := aa hW.nn 2;have z3 := aa hW.nn 3;have z4 := aa hW.nn 4;have z5 := aa hW.nn 5;clear hF;unfold ag
            go_simp
            simp only [ac];exact hR _ (Below.refl _ _)
          simp only [Act.put, List.setIfInBounds_toArray, List.set_cons_zero, List.set_cons_succ]
         apply aM
         · intro x; go_simp; done
         · intro x W R hW hF hR;clear hF;unfold ag
           go_simp
           simp only [ac];refine (hsl W _ (HE.out.far hW.ls.kb.bel) hW.rv).mono ?_;rintro e w' ⟨rfl, hb⟩;exact ⟨_, rfl, hR _ hb⟩
         simp only [Act.put, List.setIfInBounds_toArray, List.set_cons_zero, List.set_cons_succ];apply aM
         · intro x; go_simp; done
         · intro x W R hW hF hR;clear hF;unfold ag
           go_simp
           simp only [ac];exact hR _ (Below.refl _ _)
         simp only [Act.put, List.setIfInBounds_toArray, List.set_cons_zero, List.set_cons_succ];refine ba (fun u W => ∃ B, u = .slice (some ⟨B, 0, none⟩) 1 1 ∧ W.heap[B]? = some (.cells #[.string tn, .string tq] 79 (0, 0))) (fun _ _ _ h hb => let ⟨B, h1, h2⟩ := h; ⟨B, h1, (hb.block _ (ab h2)).trans h2⟩) ?_ ?_ ?_
         · intro x; go_simp; done
         · intro x W R hW hF hR;clear hF;unfold ag
           go_simp
           simp only [ac];exact hR _ _ ⟨W.heap.size, rfl, heap_alloc_new _ _⟩ ((Below.refl _ _).alloc (Nat.le_refl _) _)
         simp only [Act.put, List.setIfInBounds_toArray, List.set_cons_zero, List.set_cons_succ, List.length_cons, List.length_nil, Nat.zero_add, Nat.reduceAdd];refine a_wrt (fun x W => LA w W S s1 s2 a1 a2 n1 c1 n2 c2 t1 t2 t3 x0 x1 x2 x3 x4 x5 k v (x 7) (r ++ [(nm, q)])) (fun _ _ _ h hb => h.far hb) (fun x x' w h hT => by have e := h 7 (.inl rfl); rw [e] at hT; exact hT) ?_ ?_ ?_
         · intro x; go_simp; done
         · intro x W R hW hF hD hR
           skip
           obtain ⟨B, hx, hB⟩ := hF.1.2 rfl rfl rfl;clear hF;simp only [hx];refine addAt_append (.tmp 105) (.tmp 110) 24 rfl (S + 1) 79 i0 _ 2 32 Tryz.underlying24 hi0' hz0 hz1 hz2 rfl (by decide) v r.length (flat r) rfl hW.ls.row ⟨B, 0, none⟩ 1 1 [.string tn, .string tq] rfl rfl (World.news_of_block (cs := #[.string tn, .string tq]) hB) (by simp [Value.oneCell']) (by unfold maxLen; omega) (by omega) (ab hW.ls.hs) ?_;intro v' w' hrow hg;refine hR _ _ ?_ trivial hg.size;show LA w w' S s1 s2 a1 a2 n1 c1 n2 c2 t1 t2 t3 x0 x1 x2 x3 x4 x5 k v (updX x 7 v' 7) (r ++ [(nm, q)]);rw [bk];refine hW.ls.grow (x := (nm, q)) hg ?_;rw [HT0.out, HT1.out];exact hrow
         simp only [Act.put, List.setIfInBounds_toArray, List.set_cons_zero, List.set_cons_succ, List.length_cons, List.length_nil, Nat.zero_add, Nat.reduceAdd];apply a_late
         · intro x; go_simp; done
         · intro x W R hW hF hR;clear hF hW;unfold ag
           go_simp
           simp only [ac];exact hR _ (Below.refl _ _)
         simp only [Act.put, List.setIfInBounds_toArray, List.set_cons_zero, List.set_cons_succ];refine a_wrt2 (fun x W => LS w W S s1 s2 a1 a2 n1 c1 n2 c2 t1 t2 t3 x0 x1 x2 x3 x4 x5 k (x 7) (r ++ [(nm, q)])) (fun _ _ _ h hb => h.far hb) (fun x x' w h hT => by have e := h 7 (.inr (List.contains_iff_mem.1 rfl)); rw [e] at hT; exact hT) ?_ ?_ ?_
         · intro x; go_simp; done
         · intro x W R hW hF hD hR;have hL := hF.2.1.2 rfl rfl rfl;simp only [AK.fact] at hL;obtain ⟨ao', g', cap', hv, -, -⟩ := csl_of_row hL.row;simp only [hv];rw [hv] at hL;have e0 := aa hL.hs 0;have e1 := aa hL.hs 1;have e2 := aa hL.hs 2;have fr := fun i => ah hL.hs i
           clear hF;unfold ag
           go_simp
           simp only [ac];refine hR _ _ ?_ trivial (by simp [World.setCell]);show LS w _ S s1 s2 a1 a2 n1 c1 n2 c2 t1 t2 t3 x0 x1 x2 x3 x4 x5 k (updX x 9 _ 7) (r ++ [(nm, q)]);rw [aJ (i := 9) (j := 7) _ _ (by decide), hv];have := hL.set;rw [show (r ++ [(nm, q)]).length = r.length + 1 by rw [List.length_append]; rfl] at this ⊢;exact this
         simp only [Act.put];refine a_nil (by kernel_rfl) (by kernel_rfl) (by kernel_rfl) (fun _ _ h hb => h.far hb) (fun _ _ _ _ => trivial) (fun _ _ => trivial) (⟨HM3.out.ls.far (Below.refl _ _).drew, HM3.out.nn, HM3.out.rv.drew, HM3.out.sN, HM3.out.gN⟩) ?_;intro x W hE hW hF hD;clear hD;have hls : LS w W S s1 s2 a1 a2 n1 c1 n2 c2 t1 t2 t3 x0 x1 x2 x3 x4 x5 k (x 7) (r ++ [(nm, q)]) := hF.1.2 rfl;have HL2 := hid hls;clear hF hW hls
         go_wp2_with fail
         go_roundg (n1 + n2 - (i' + j'))
         case rel =>
          refine ⟨i', j', r ++ [(nm, q)], _, rfl, by omega, by omega, rfl, rfl, ?_, HL2.out⟩;have := HCS2.out;rwa [if_neg HQ0.out] at this
         case measure => omega
end
end Go.Proofs.YteoklapcifonaaaGreatDoor

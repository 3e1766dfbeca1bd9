/- The reference's plus, at names of any kind. -/
import Derived.Test.YteoklapcifonaaaGreatDoorVJA
import Derived.Test.YteoklapcifonaaaGreatDoorVTF
open Go.Lib (hid)
namespace Go.Proofs.YteoklapcifonaaaGreatDoor
open Go.RowKit Nmx
open Go.Lib (compareBytes)
/-- the boxes of plus -/
structure PB (w W : World) (s1 : Int) (a1 : Option Addr) (n1 c1 : Nat) (t1 : ByteArray) (s2 : Int) (a2 : Option Addr) (n2 c2 : Nat) (t2 : ByteArray) : Prop where
 a : W.heap[w.heap.size]? = some (.cells #[.int .i64 s1, .slice a1 n1 c1, .string t1] 26 (0, 0))
 b : W.heap[w.heap.size + 1]? = some (.cells #[.int .i64 s2, .slice a2 n2 c2, .string t2] 26 (0, 0))
 r : W.heap[w.heap.size + 2]? = some (.cells #[.int .i64 0, .slice none 0 0, .string ⟨#[]⟩] 26 (0, 0))
 bel : Below w.heap.size w W
structure PLS (w W : World) (s1 : Int) (a1 : Option Addr) (n1 c1 : Nat) (t1 : ByteArray) (s2 : Int) (a2 : Option Addr) (n2 c2 : Nat) (t2 tc : ByteArray) (S : Nat) (v v' : Value) (rs : List (List UInt8 × Rat)) : Prop where
 pb : PB w W s1 a1 n1 c1 t1 s2 a2 n2 c2 t2
 hs : W.heap[S]? = some (.cells #[.int .i64 s1, v, .string tc] 26 (0, 0))
 row : W.ownsRow (S + 1) 79 2 v' rs.length (flat rs)
 l1 : w.heap.size + 2 < S
section
variable {w W W' : World} {s1 s2 : Int} {a1 a2 : Option Addr} {n1 c1 n2 c2 : Nat} {t1 t2 tc : ByteArray} {S : Nat} {v v' : Value} {rs : List (List UInt8 × Rat)}
theorem PB.far (h : PB w W s1 a1 n1 c1 t1 s2 a2 n2 c2 t2) (hb : Below W.heap.size W W') : PB w W' s1 a1 n1 c1 t1 s2 a2 n2 c2 t2 :=
 ⟨(hb.block _ (lt_of_heap h.a)).trans h.a, (hb.block _ (lt_of_heap h.b)).trans h.b, (hb.block _ (lt_of_heap h.r)).trans h.r, h.bel.trans (hb.mono h.bel.size)⟩
theorem PLS.far (h : PLS w W s1 a1 n1 c1 t1 s2 a2 n2 c2 t2 tc S v v' rs) (hb : Below W.heap.size W W') : PLS w W' s1 a1 n1 c1 t1 s2 a2 n2 c2 t2 tc S v v' rs :=
 ⟨h.pb.far hb, (hb.block _ (lt_of_heap h.hs)).trans h.hs, row_same h.row fun g hg => hb.block _ (h.row.lt g hg).2, h.l1⟩
theorem PLS.grow {x : List UInt8 × Rat} (h : PLS w W s1 a1 n1 c1 t1 s2 a2 n2 c2 t2 tc S v v rs) (hg : W.grownBy W' v.ownBlock) (hr : W'.ownsRow (S + 1) 79 2 v' (rs.length + 1) (flat rs ++ [.string ⟨x.1.toArray⟩, .string (TX x.2)])) : PLS w W' s1 a1 n1 c1 t1 s2 a2 n2 c2 t2 tc S v v' (rs ++ [x]) := by
 have h1 := h.l1;have hne : ∀ g, g ≤ S → some g ≠ v.ownBlock := fun g hgS e => by have := (h.row.lt g e.symm).1; omega
 refine ⟨⟨(hg.block _ (lt_of_heap h.pb.a) (hne _ (by omega))).trans h.pb.a, (hg.block _ (lt_of_heap h.pb.b) (hne _ (by omega))).trans h.pb.b, (hg.block _ (lt_of_heap h.pb.r) (hne _ (by omega))).trans h.pb.r, h.pb.bel.grown hg h.pb.bel.size fun g e => by have := (h.row.lt g e).1; omega⟩, (hg.block S (lt_of_heap h.hs) (hne S (Nat.le_refl _))).trans h.hs, ?_, h1⟩;rw [List.length_append, flat_append];exact hr
theorem PLS.set (h : PLS w W s1 a1 n1 c1 t1 s2 a2 n2 c2 t2 tc S v v' rs) : PLS w (W.setCell ⟨S, 1, none⟩ v') s1 a1 n1 c1 t1 s2 a2 n2 c2 t2 tc S v' v' rs := by
 have h1 := h.l1;have hset : ∀ g, g ≠ S → (W.setCell ⟨S, 1, none⟩ v').heap[g]? = W.heap[g]? := fun g hgS => Below.heap_setCell _ _ _ _ hgS
 refine ⟨⟨(hset _ (by omega)).trans h.pb.a, (hset _ (by omega)).trans h.pb.b, (hset _ (by omega)).trans h.pb.r, h.pb.bel.setCell (show w.heap.size ≤ S by omega) _⟩, ?_, ?_, h1⟩
 · have := heap_setCell_same W S 1 _ _ v' h.hs;exact this
 · exact ownsRow_setCell_below h.row (a := ⟨S, 1, none⟩) (show S < S + 1 by omega) v'
end
section
set_option maxRecDepth 100000
set_option maxHeartbeats 16000000
theorem CS.left1 {d : Nat} {cs1 cs2 r : List (List UInt8 × Rat)} {i j : Nat} (h : CS d 1 cs1 cs2 r i j) (hc : Can ltB cs1) (hi : i < cs1.length) (hj : ∀ hj : j < cs2.length, ltB cs1[i].1 cs2[j].1) (hd : DS d cs1[i].2) : CS d 1 cs1 cs2 (r ++ [(cs1[i].1, cs1[i].2)]) (i + 1) j := by
 have := h.left hi hj hd;rwa [if_neg (can_nz hc _ (List.getElem_mem hi))] at this
theorem CS.right1 {d : Nat} {cs1 cs2 r : List (List UInt8 × Rat)} {i j : Nat} (h : CS d 1 cs1 cs2 r i j) (hc : Can ltB cs2) (hj : j < cs2.length) (hi : ∀ hi : i < cs1.length, ltB cs2[j].1 cs1[i].1) (hd : DS d cs2[j].2) : CS d 1 cs1 cs2 (r ++ [(cs2[j].1, cs2[j].2)]) i (j + 1) := by
 have := h.right hj hi (by rw [Rat.one_mul]; exact hd);rwa [Rat.one_mul, if_neg (can_nz hc _ (List.getElem_mem hj))] at this
theorem CS.both1 {d : Nat} {cs1 cs2 r : List (List UInt8 × Rat)} {i j : Nat} (h : CS d 1 cs1 cs2 r i j) (hi : i < cs1.length) (hj : j < cs2.length) (he : cs1[i].1 = cs2[j].1) (hd : DS d (cs1[i].2 + cs2[j].2)) : CS d 1 cs1 cs2 (if cs1[i].2 + cs2[j].2 = 0 then r else r ++ [(cs1[i].1, cs1[i].2 + cs2[j].2)]) (i + 1) (j + 1) := by
 have := h.both hi hj he (by rw [Rat.one_mul]; exact hd);rwa [Rat.one_mul, ← he] at this
theorem plusR {U : List (List UInt8)} {d e : Nat} {w : World} {s1 s2 : Int} {a1 a2 : Option Addr} {g1 o1 n1 c1 g2 o2 n2 c2 : Nat} {p1 p2 : Rat} {cs1 cs2 : List (List UInt8 × Rat)} (h1 : CSl w a1 g1 o1 c1 cs1) (k1 : GoodU U d cs1) (d1 : DS d p1) (h2 : CSl w a2 g2 o2 c2 cs2) (k2 : GoodU U e cs2) (d2 : DS e p2) (hn1 : cs1.length = n1) (hn2 : cs2.length = n2) (hU : U.length ≤ 16) (hd : d ≤ 3000) (he : e ≤ 3000) :
    Calls Tryz.prog 88 #[.agg #[.int .i64 s1, .slice a1 n1 c1, .string (TX p1)], .agg #[.int .i64 s2, .slice a2 n2 c2, .string (TX p2)]] w (GetsU U s1 (d + e + 1) (p1 + p2) (fun n => cof cs1 n + cof cs2 n) w) := by
 have hle1 := h1.le;have hmost1 := h1.most;have hle2 := h2.le;have hmost2 := h2.most;rw [hn1] at hle1;rw [hn2] at hle2;have HH1 := hid h1;have HH2 := hid h2;have HG1 := hid k1;have HG2 := hid k2;have HUL := hid hU;have HN1 := hid hn1;have HN2 := hid hn2;have HDC : Hid (DS (d + e + 1) (p1 + p2)) := hid (d1.add d2);have HADD : Hid (∀ W, Calls Tryz.prog 85 #[.string (TX p1), .string (TX p2)] W (GetsT (p1 + p2) W)) := hid fun W => refAddT d1 d2 (by omega) (by omega) W
 have HAIJ : Hid (∀ (i : Nat) (hi : i < cs1.length) (j : Nat) (hj : j < cs2.length) W, Calls Tryz.prog 85 #[.string (TX cs1[i].2), .string (TX cs2[j].2)] W (GetsT (cs1[i].2 + cs2[j].2) W)) := hid fun i hi j hj W => refAddT (k1.ds _ (List.getElem_mem hi)) (k2.ds _ (List.getElem_mem hj)) (by omega) (by omega) W
 have HU1 : Hid (∀ r i j, CS (d + e + 1) 1 cs1 cs2 r i j → ∀ x ∈ r, x.1 ∈ U) := hid fun r i j h x hx => by
  rcases h.nm x hx with h | h
  · obtain ⟨y, hy, e⟩ := List.mem_map.1 h; rw [← e]; exact k1.nm y hy
  · obtain ⟨y, hy, e⟩ := List.mem_map.1 h; rw [← e]; exact k2.nm y hy
 have HCS0 : Hid (CS (d + e + 1) 1 cs1 cs2 [] 0 0) := hid (CS.start k1.can k2.can);obtain ⟨t1, ht1⟩ : ∃ t, TX p1 = t := ⟨_, rfl⟩
 obtain ⟨t2, ht2⟩ : ∃ t, TX p2 = t := ⟨_, rfl⟩
 obtain ⟨tc, htc⟩ : ∃ t, TX (p1 + p2) = t := ⟨_, rfl⟩
 unfold GetsT at HADD;rw [ht1, ht2, htc] at HADD;rw [ht1, ht2];have HTC := hid htc;obtain ⟨m1, m2, m3, mb⟩ := newL3 w (.cells #[.int .i64 s1, .slice a1 n1 c1, .string t1] 26) (.cells #[.int .i64 s2, .slice a2 n2 c2, .string t2] 26) (.cells #[.int .i64 0, .slice none 0 0, .string ⟨#[]⟩] 26);have HPB := hid (⟨m1, m2, m3, mb⟩ : PB w _ s1 a1 n1 c1 t1 s2 a2 n2 c2 t2);clear h1 h2 k1 k2 d1 d2 hn1 hn2 hU ht1 ht2 htc m1 m2 m3 mb
 go_enter Tryz.func88, Tryz.ntmps88
 go_wp2_with fail
 generalize ((w.alloc (.cells #[.int .i64 s1, .slice a1 n1 c1, .string t1] 26)).alloc (.cells #[.int .i64 s2, .slice a2 n2 c2, .string t2] 26)).alloc (.cells #[.int .i64 0, .slice none 0 0, .string ⟨#[]⟩] 26) = w1 at *;refine add_region [[], [0], [], [2], [], [4], [2, 3, 4, 5], [0, 1, 2, 3, 4, 5, 6], [], [0, 1, 2, 3, 4, 5, 6, 7, 8]] (fun W => PB w W s1 a1 n1 c1 t1 s2 a2 n2 c2 t2) (fun _ => True) ?_
 iterate 6
  apply a_con
  · intro x; go_simp; done
  · intro x W R hW hF hR;have p0 := heap_cell hW.a 0;have p1 := heap_cell hW.a 1;have p2 := heap_cell hW.a 2;have q2 := heap_cell hW.b 2;clear hF;unfold addAt
    go_simp
    simp only [addUpon];exact hR _ (Below.refl _ _)
  simp only [Act.put, List.setIfInBounds_toArray, List.set_cons_zero, List.set_cons_succ]
 apply a_con
 · intro x; go_simp; done
 · intro x W R hW hF hR;clear hF;unfold addAt
   go_simp
   simp only [addUpon];refine (HADD.out W).mono ?_;rintro e w' ⟨rfl, hb⟩;exact ⟨_, rfl, hR _ hb⟩
 simp only [Act.put, List.setIfInBounds_toArray, List.set_cons_zero, List.set_cons_succ];apply a_con
 · intro x; go_simp; done
 · intro x W R hW hF hR;clear hF;unfold addAt
   go_simp
   simp only [addUpon];exact hR _ (Below.refl _ _)
 simp only [Act.put, List.setIfInBounds_toArray, List.set_cons_zero, List.set_cons_succ];refine a_new (fun B W => w.heap.size + 2 < B ∧ W.heap[B]? = some (.cells #[.int .i64 0, .slice none 0 0, .string ⟨#[]⟩] 26 (0, 0))) (fun _ _ _ h hb => ⟨h.1, (hb.block _ (lt_of_heap h.2)).trans h.2⟩) ?_ ?_ ?_
 · intro x; go_simp; done
 · intro x W R hW hF hR;clear hF;unfold addAt
   go_simp
   simp only [addUpon];exact hR _ ⟨lt_of_heap hW.r, heap_alloc_new _ _⟩ ((Below.refl _ _).alloc (Nat.le_refl _) _) (by simp)
 simp only [Act.put, List.setIfInBounds_toArray, List.set_cons_zero, List.set_cons_succ, List.length_cons, List.length_nil, Nat.zero_add, Nat.reduceAdd];refine a_wrt (fun x W => ∃ S, x 8 = .pointer (some ⟨S, 0, none⟩) ∧ PLS w W s1 a1 n1 c1 t1 s2 a2 n2 c2 t2 tc S (.slice none 0 0) (.slice none 0 0) []) (fun _ _ _ h hb => let ⟨S, h1, h2⟩ := h; ⟨S, h1, h2.far hb⟩) (fun x x' w hx hT => let ⟨S, h1, h⟩ := hT; ⟨S, (hx 8 (.inr (List.contains_iff_mem.1 rfl))).symm.trans h1, h⟩) ?_ ?_ ?_
 · intro x; go_simp; done
 · intro x W R hW hF hD hR;have hb := hF.1.2 rfl rfl rfl;simp only [AK.fact] at hb;obtain ⟨S, hx8, hl, hS⟩ := hb;simp only [hx8];have e0 := heap_cell hS 0;have e1 := heap_cell hS 1;have e2 := heap_cell hS 2;have fr := fun i => heap_fz hS i
   clear hF hD;unfold addAt
   go_simp
   simp only [addUpon];have ho : ∀ g, g ≠ S → (((W.setCell ⟨S, 0, none⟩ (.int .i64 s1)).setCell ⟨S, 1, none⟩ (.slice none 0 0)).setCell ⟨S, 2, none⟩ (.string tc)).heap[g]? = W.heap[g]? := fun g hg => set3_other _ _ _ hg
   have hbl := ((hW.bel.setCell (show w.heap.size ≤ S by omega) (p := ⟨S, 0, none⟩) (.int .i64 s1)).setCell (p := ⟨S, 1, none⟩) (show w.heap.size ≤ S by omega) (.slice none 0 0)).setCell (p := ⟨S, 2, none⟩) (show w.heap.size ≤ S by omega) (.string tc);exact hR _ _ ⟨S, (updX_ne (i := 9) (j := 8) _ _ (by decide)).trans hx8, ⟨(ho _ (by omega)).trans hW.a, (ho _ (by omega)).trans hW.b, (ho _ (by omega)).trans hW.r, hbl⟩, set3_heap hS, World.ownsRow_nil _ _ _ _, hl⟩ trivial (by simp [World.setCell])
 simp only [Act.put];refine a_nil (by kernel_rfl) (by kernel_rfl) (by kernel_rfl) (fun _ _ h hb => h.far hb) (fun _ _ _ _ => trivial) (fun _ _ => trivial) (HPB.out.far (Below.refl _ _).drew) ?_;intro x W hE hW hF hD;clear hD;obtain ⟨S, hx8, hts⟩ := hF.1.2 rfl;simp only [hx8];have HPS := hid hts;have pa1 := heap_cell hts.pb.a 1;have pb1 := heap_cell hts.pb.b 1;have hla := lt_of_heap hts.pb.a;clear hF hW hE hts hx8 HPB
 go_wp2_with fail
 clear pa1 pb1 hla
 go_loopg [6, 7] (n1 + n2) (fun gh v6 v7 wr => ∃ (i j : Nat) (v : Value) (rs : List (List UInt8 × Rat)), gh = n1 + n2 - (i + j) ∧ i ≤ n1 ∧ j ≤ n2 ∧ v6 = .int .i64 i ∧ v7 = .int .i64 j ∧ PLS w wr s1 a1 n1 c1 t1 s2 a2 n2 c2 t2 tc S v v rs ∧ CS (d + e + 1) 1 cs1 cs2 rs i j)
 case atStart => exact ⟨0, 0, _, _, by omega, Nat.zero_le _, Nat.zero_le _, rfl, rfl, HPS.out, HCS0.out⟩
 case round =>
  obtain ⟨i, j, v, rs, rfl, hi, hj, rfl, rfl, hps, hcs⟩ := hrel;replace HPS := hid hps;have HCS := hid hcs;clear hps hcs;have hi0 : (0 : Int) ≤ (i : Int) := by omega
  have hj0 : (0 : Int) ≤ (j : Int) := by omega
  have HRL : Hid (rs.length ≤ 16) := hid (Nat.le_trans (can_lenU HCS.out.cm.cr U (HU1.out _ _ _ HCS.out)) HUL.out);have pa1 := heap_cell HPS.out.pb.a 1;have pb1 := heap_cell HPS.out.pb.b 1;have hla := lt_of_heap HPS.out.pb.b
  by_cases hlta : i < n1
  · have ha' : (i : Int) < (n1 : Int) := by omega
    have hla : i < cs1.length := by rw [HN1.out]; exact hlta
    have hada := HH1.out.ad (by omega);subst hada;obtain ⟨tka, htka⟩ : ∃ tk : ByteArray, (⟨cs1[i].1.toArray⟩ : ByteArray) = tk := ⟨_, rfl⟩
    obtain ⟨tqa, htqa⟩ : ∃ tq : ByteArray, TX cs1[i].2 = tq := ⟨_, rfl⟩
    have HCELa : Hid (∀ W, Below w.heap.size w W → W.cell? ⟨g1, o1 + i * 2, none⟩ = some (.string tka) ∧ W.cell? ⟨g1, o1 + i * 2 + 1, none⟩ = some (.string tqa)) := hid fun W hW => ⟨by rw [← htka]; exact (HH1.out.far hW).nm i hla, by rw [← htqa]; exact (HH1.out.far hW).nu i hla⟩
    have HTKa := hid htka;have HTQa := hid htqa
    by_cases hltb : j < n2
    · have hb' : (j : Int) < (n2 : Int) := by omega
      have hbn : decide ((j : Int) = (n2 : Int)) = false := decide_eq_false (by omega);have han : decide ((i : Int) = (n1 : Int)) = false := decide_eq_false (by omega);have hbn' : ((j : Int) == (n2 : Int)) = false := by rw [beq_eq_false_iff_ne]; omega
      have han' : ((i : Int) == (n1 : Int)) = false := by rw [beq_eq_false_iff_ne]; omega
      have hlb : j < cs2.length := by rw [HN2.out]; exact hltb
      have hadb := HH2.out.ad (by omega);subst hadb;obtain ⟨tkb, htkb⟩ : ∃ tk : ByteArray, (⟨cs2[j].1.toArray⟩ : ByteArray) = tk := ⟨_, rfl⟩
      obtain ⟨tqb, htqb⟩ : ∃ tq : ByteArray, TX cs2[j].2 = tq := ⟨_, rfl⟩
      have HCELb : Hid (∀ W, Below w.heap.size w W → W.cell? ⟨g2, o2 + j * 2, none⟩ = some (.string tkb) ∧ W.cell? ⟨g2, o2 + j * 2 + 1, none⟩ = some (.string tqb)) := hid fun W hW => ⟨by rw [← htkb]; exact (HH2.out.far hW).nm j hlb, by rw [← htqb]; exact (HH2.out.far hW).nu j hlb⟩
      have HTKb := hid htkb;have HTQb := hid htqb
      have hcc := cmpB_cases cs1[i].1 cs2[j].1;have l12 : ltB cs1[i].1 cs2[j].1 → Op.bytesLess tka.toList tkb.toList = true := fun h => by rw [← htka, ← htkb]; exact less_ba h
      have n12 : ¬ ltB cs1[i].1 cs2[j].1 → Op.bytesLess tka.toList tkb.toList = false := fun h => by rw [← htka, ← htkb]; exact less_no h
      have l21 : ltB cs2[j].1 cs1[i].1 → Op.bytesLess tkb.toList tka.toList = true := fun h => by rw [← htka, ← htkb]; exact less_ba h
      have n21 : ¬ ltB cs2[j].1 cs1[i].1 → Op.bytesLess tkb.toList tka.toList = false := fun h => by rw [← htka, ← htkb]; exact less_no h
      have C1 : ∀ W, Below wr.heap.size wr W → W.cell? ⟨w.heap.size, 1, none⟩ = some (.slice (some ⟨g1, o1, none⟩) n1 c1) := fun W hW => heap_cell (HPS.out.far hW).pb.a 1
      have C2 : ∀ W, Below wr.heap.size wr W → W.cell? ⟨w.heap.size + 1, 1, none⟩ = some (.slice (some ⟨g2, o2, none⟩) n2 c2) := fun W hW => heap_cell (HPS.out.far hW).pb.b 1
      have D0 : ∀ W, Below wr.heap.size wr W → W.cell? ⟨g1, o1 + i * 2, none⟩ = some (.string tka) := fun W hW => (HCELa.out W (HPS.out.far hW).pb.bel).1
      have D1 : ∀ W, Below wr.heap.size wr W → W.cell? ⟨g2, o2 + j * 2, none⟩ = some (.string tkb) := fun W hW => (HCELb.out W (HPS.out.far hW).pb.bel).1
      have HC1 := hid C1;have HC2 := hid C2;have HD0 := hid D0;have HD1 := hid D1;clear C1 C2 D0 D1 htka htkb htqa htqb;rcases hcc with ⟨h1, h2, h3⟩ | ⟨h1, h2⟩ | ⟨h1, h2, h3⟩
      · have hlt : ltB cs1[i].1 cs2[j].1 := h1;have HSN := hid (HCS.out.left1 HG1.out.can hla (fun _ => hlt) ((HG1.out.ds _ (List.getElem_mem hla)).mono (by omega)));have hls := l12 hlt;obtain ⟨cn, hcn⟩ : ∃ cn, cs1[i].1 = cn := ⟨_, rfl⟩
        obtain ⟨cq, hcq⟩ : ∃ cq, cs1[i].2 = cq := ⟨_, rfl⟩
        have HTK : Hid ((⟨cn.toArray⟩ : ByteArray) = tka) := hid (by rw [← hcn]; exact HTKa.out);have HTQ : Hid (TX cq = tqa) := hid (by rw [← hcq]; exact HTQa.out);rw [hcn, hcq] at HSN;clear hcn hcq
        clear h1 h2 h3 hlt l12 n12 l21 n21 HTKa HTQa HTKb HTQb hla hlb;obtain ⟨i0, hi0', hz0, hz1, hz2⟩ := info_parts infoCoef
        go_wp2_with fail
        refine q_region (fun W => Below wr.heap.size wr W) (by kernel_rfl) (by kernel_rfl) (Below.refl _ _).drew ?_
        repeat (first
         | (refine q_skip ?_ ?_
            · (go_simp; done)
            simp only [Act.put, List.setIfInBounds_toArray, List.set_cons_zero, List.set_cons_succ])
         | (refine q_take (v := ?_) ?_ ?_ ?_
            rotate_left
            · (go_simp; done)
            · intro W hW;have z0 := HC1.out W hW;have z1 := HC2.out W hW;have z2 := HD0.out W hW;have z3 := HD1.out W hW
              go_simp
              with_reducible rfl
            simp only [Act.put, List.setIfInBounds_toArray, List.set_cons_zero, List.set_cons_succ])
         | (refine q_skip ?_ ?_
            · (simp [Region.wanted, yielded, undef]; done)
            simp only [Act.put, List.setIfInBounds_toArray, List.set_cons_zero, List.set_cons_succ]))
        refine q_nil ?_;intro w2 hw2;have HP2 := hid (HPS.out.far hw2);clear hw2
        go_wp2_with fail
        refine add_region [[], [0], [], [2], [], [2, 3, 4], [2, 3, 4, 5], [2, 3, 4, 5, 6], [0, 1, 2, 3, 4, 5, 6, 7], [0, 1, 2, 3, 4, 5, 6, 7, 8], [0, 1, 2, 3, 4, 5, 6, 7, 8, 9]] (fun W => PLS w W s1 (some ⟨g1, o1, none⟩) n1 c1 t1 s2 (some ⟨g2, o2, none⟩) n2 c2 t2 tc S v v rs) (fun _ => True) ?_
        iterate 7
         apply a_con
         · intro x; go_simp; done
         · intro x W R hW hF hR;have p1 := heap_cell hW.pb.a 1;have k1 := heap_cell hW.hs 1;obtain ⟨q0, q1⟩ := HCELa.out W hW.pb.bel;clear hF;unfold addAt
           go_simp
           simp only [addUpon];exact hR _ (Below.refl _ _)
         simp only [Act.put, List.setIfInBounds_toArray, List.set_cons_zero, List.set_cons_succ]
        refine a_opq (fun u W => ∃ B, u = .slice (some ⟨B, 0, none⟩) 1 1 ∧ W.heap[B]? = some (.cells #[.string tka, .string tqa] 79 (0, 0))) (fun _ _ _ h hb => let ⟨B, h1, h2⟩ := h; ⟨B, h1, (hb.block _ (lt_of_heap h2)).trans h2⟩) ?_ ?_ ?_
        · intro x; go_simp; done
        · intro x W R hW hF hR;clear hF;unfold addAt
          go_simp
          simp only [addUpon];exact hR _ _ ⟨W.heap.size, rfl, heap_alloc_new _ _⟩ ((Below.refl _ _).alloc (Nat.le_refl _) _)
        simp only [Act.put, List.setIfInBounds_toArray, List.set_cons_zero, List.set_cons_succ, List.length_cons, List.length_nil, Nat.zero_add, Nat.reduceAdd];refine a_wrt (fun x W => PLS w W s1 (some ⟨g1, o1, none⟩) n1 c1 t1 s2 (some ⟨g2, o2, none⟩) n2 c2 t2 tc S v (x 8) (rs ++ [(cn, cq)])) (fun _ _ _ h hb => h.far hb) (fun x x' w h hT => by have e := h 8 (.inl rfl); rw [e] at hT; exact hT) ?_ ?_ ?_
        · intro x; go_simp; done
        · intro x W R hW hF hD hR;obtain ⟨B, hx, hB⟩ := hF.1.2 rfl rfl rfl;clear hF;simp only [hx];have hrl := HRL.out;refine addAt_append (.tmp 90) (.tmp 96) 24 rfl (S + 1) 79 i0 _ 2 32 Tryz.underlying24 hi0' hz0 hz1 hz2 rfl (by decide) v rs.length (flat rs) rfl hW.row ⟨B, 0, none⟩ 1 1 [.string tka, .string tqa] rfl rfl (World.news_of_block (cs := #[.string tka, .string tqa]) hB) (by simp [Value.oneCell']) (by unfold maxLen; omega) (by omega) (lt_of_heap hW.hs) ?_;intro v' w' hrow hg;refine hR _ _ ?_ trivial hg.size;show PLS w w' s1 (some ⟨g1, o1, none⟩) n1 c1 t1 s2 (some ⟨g2, o2, none⟩) n2 c2 t2 tc S v (updX x 8 v' 8) (rs ++ [(cn, cq)]);rw [updX_self];refine hW.grow (x := (cn, cq)) hg ?_;rw [HTK.out, HTQ.out];exact hrow
        simp only [Act.put, List.setIfInBounds_toArray, List.set_cons_zero, List.set_cons_succ, List.length_cons, List.length_nil, Nat.zero_add, Nat.reduceAdd];apply a_late
        · intro x; go_simp; done
        · intro x W R hW hF hR;clear hF hW;unfold addAt
          go_simp
          simp only [addUpon];exact hR _ (Below.refl _ _)
        simp only [Act.put, List.setIfInBounds_toArray, List.set_cons_zero, List.set_cons_succ];refine a_wrt2 (fun x W => PLS w W s1 (some ⟨g1, o1, none⟩) n1 c1 t1 s2 (some ⟨g2, o2, none⟩) n2 c2 t2 tc S (x 8) (x 8) (rs ++ [(cn, cq)])) (fun _ _ _ h hb => h.far hb) (fun x x' w h hT => by have e := h 8 (.inr (List.contains_iff_mem.1 rfl)); rw [e] at hT; exact hT) ?_ ?_ ?_
        · intro x; go_simp; done
        · intro x W R hW hF hD hR;have hL := hF.2.1.2 rfl rfl rfl;simp only [AK.fact] at hL;obtain ⟨aq, gq, cv, hv, -, -⟩ := csl_of_row hL.row;simp only [hv];rw [hv] at hL;have e0 := heap_cell hL.hs 1;have fr := fun i => heap_fz hL.hs i
          clear hF;unfold addAt
          go_simp
          simp only [addUpon];refine hR _ _ ?_ trivial (by simp [World.setCell]);show PLS w _ s1 (some ⟨g1, o1, none⟩) n1 c1 t1 s2 (some ⟨g2, o2, none⟩) n2 c2 t2 tc S (updX x 10 _ 8) (updX x 10 _ 8) (rs ++ [(cn, cq)]);rw [updX_ne (i := 10) (j := 8) _ _ (by decide), hv];have := hL.set;rw [show (rs ++ [(cn, cq)]).length = rs.length + 1 by rw [List.length_append]; rfl] at this ⊢;exact this
        simp only [Act.put];refine a_nil (by kernel_rfl) (by kernel_rfl) (by kernel_rfl) (fun _ _ h hb => h.far hb) (fun _ _ _ _ => trivial) (fun _ _ => trivial) (HP2.out.far (Below.refl _ _).drew) ?_;intro x W hE hW hF hD;clear hD;have hls := hF.1.2 rfl;have HL2 := hid hls;clear hF hW hls
        go_wp2_with fail
        go_roundg (n1 + n2 - ((i + 1) + j))
        case rel => exact ⟨(i + 1), j, _, _, rfl, by omega, by omega, by go_num, rfl, HL2.out, HSN.out⟩
        case measure => omega
      · have hne12 : ¬ ltB cs1[i].1 cs2[j].1 := fun h => by unfold ltB at h; omega
        have hne21 : ¬ ltB cs2[j].1 cs1[i].1 := fun h => ord_ltB.irr cs1[i].1 (by rwa [← h2] at h)
        have hls := n12 hne12;have hls2 := n21 hne21;have hsn := HCS.out.both1 hla hlb h2 ((HG1.out.ds _ (List.getElem_mem hla)).add (HG2.out.ds _ (List.getElem_mem hlb)));obtain ⟨cn, hcn⟩ : ∃ cn, cs1[i].1 = cn := ⟨_, rfl⟩
        obtain ⟨cq, hcq⟩ : ∃ cq, cs1[i].2 + cs2[j].2 = cq := ⟨_, rfl⟩
        obtain ⟨tr, htr⟩ : ∃ t, TX cq = t := ⟨_, rfl⟩
        have HADIJ : Hid (∀ W, Calls Tryz.prog 85 #[.string tqa, .string tqb] W fun e w' => e = .returned (.string tr) ∧ Below W.heap.size W w') := hid fun W => by
         have := HAIJ.out i hla j hlb W;unfold GetsT at this;rw [HTQa.out, HTQb.out, hcq, htr] at this;exact this
        have HTK : Hid ((⟨cn.toArray⟩ : ByteArray) = tka) := hid (by rw [← hcn]; exact HTKa.out);have HTQ : Hid (TX cq = tr) := hid htr;rw [hcn, hcq] at hsn;have htz := tx_zero_test cq;rw [htr] at htz;have HSNs := hid hsn;clear h1 h2 l12 n12 l21 n21 HTKa HTQa HTKb HTQb hla hlb hne12 hne21 hcn hcq htr hsn;obtain ⟨i0, hi0', hz0, hz1, hz2⟩ := info_parts infoCoef
        go_wp2_with fail
        refine q_region (fun W => Below wr.heap.size wr W) (by kernel_rfl) (by kernel_rfl) (Below.refl _ _).drew ?_
        repeat (first
         | (refine q_skip ?_ ?_
            · (go_simp; done)
            simp only [Act.put, List.setIfInBounds_toArray, List.set_cons_zero, List.set_cons_succ])
         | (refine q_take (v := ?_) ?_ ?_ ?_
            rotate_left
            · (go_simp; done)
            · intro W hW;have z0 := HC1.out W hW;have z1 := HC2.out W hW;have z2 := HD0.out W hW;have z3 := HD1.out W hW
              go_simp
              with_reducible rfl
            simp only [Act.put, List.setIfInBounds_toArray, List.set_cons_zero, List.set_cons_succ])
         | (refine q_skip ?_ ?_
            · (simp [Region.wanted, yielded, undef]; done)
            simp only [Act.put, List.setIfInBounds_toArray, List.set_cons_zero, List.set_cons_succ]))
        refine q_nil ?_;intro w2 hw2;replace HPS := hid (HPS.out.far hw2);replace HC1 : Hid (∀ W, Below w2.heap.size w2 W → _) := hid fun W hW => HC1.out W (hw2.trans (hW.mono hw2.size))
        replace HC2 : Hid (∀ W, Below w2.heap.size w2 W → _) := hid fun W hW => HC2.out W (hw2.trans (hW.mono hw2.size))
        replace HD0 : Hid (∀ W, Below w2.heap.size w2 W → _) := hid fun W hW => HD0.out W (hw2.trans (hW.mono hw2.size))
        replace HD1 : Hid (∀ W, Below w2.heap.size w2 W → _) := hid fun W hW => HD1.out W (hw2.trans (hW.mono hw2.size))
        clear hw2;have pa1 := heap_cell HPS.out.pb.a 1;have pb1 := heap_cell HPS.out.pb.b 1
        go_wp2_with fail
        refine q_region (fun W => Below w2.heap.size w2 W) (by kernel_rfl) (by kernel_rfl) (Below.refl _ _).drew ?_
        repeat (first
         | (refine q_skip ?_ ?_
            · (go_simp; done)
            simp only [Act.put, List.setIfInBounds_toArray, List.set_cons_zero, List.set_cons_succ])
         | (refine q_take (v := ?_) ?_ ?_ ?_
            rotate_left
            · (go_simp; done)
            · intro W hW;have z0 := HC1.out W hW;have z1 := HC2.out W hW;have z2 := HD0.out W hW;have z3 := HD1.out W hW
              go_simp
              with_reducible rfl
            simp only [Act.put, List.setIfInBounds_toArray, List.set_cons_zero, List.set_cons_succ])
         | (refine q_skip ?_ ?_
            · (simp [Region.wanted, yielded, undef]; done)
            simp only [Act.put, List.setIfInBounds_toArray, List.set_cons_zero, List.set_cons_succ]))
        refine q_nil ?_;intro w3 hw3;have HP2 := hid (HPS.out.far hw3);clear hw3
        go_wp2_with fail
        refine add_region [[], [0], [], [0, 1, 2], [0, 1, 2, 3], [0, 1, 2, 3, 4], [], [6], [], [6, 7, 8], [6, 7, 8, 9], [6, 7, 8, 9, 10], [0, 1, 2, 3, 4, 5, 6, 7, 8, 9, 10, 11], [0, 1, 2, 3, 4, 5, 6, 7, 8, 9, 10, 11, 12]] (fun W => PLS w W s1 (some ⟨g1, o1, none⟩) n1 c1 t1 s2 (some ⟨g2, o2, none⟩) n2 c2 t2 tc S v v rs) (fun _ => True) ?_
        iterate 12
         apply a_con
         · intro x; go_simp; done
         · intro x W R hW hF hR;have p1 := heap_cell hW.pb.a 1;have p2 := heap_cell hW.pb.b 1;obtain ⟨q0, q1⟩ := HCELa.out W hW.pb.bel;obtain ⟨q2, q3⟩ := HCELb.out W hW.pb.bel;clear hF;unfold addAt
           go_simp
           simp only [addUpon];exact hR _ (Below.refl _ _)
         simp only [Act.put, List.setIfInBounds_toArray, List.set_cons_zero, List.set_cons_succ]
        apply a_con
        · intro x; go_simp; done
        · intro x W R hW hF hR;clear hF;unfold addAt
          go_simp
          simp only [addUpon];refine (HADIJ.out W).mono ?_;rintro e w' ⟨rfl, hb⟩;exact ⟨_, rfl, hR _ hb⟩
        simp only [Act.put, List.setIfInBounds_toArray, List.set_cons_zero, List.set_cons_succ];apply a_con
        · intro x; go_simp; done
        · intro x W R hW hF hR;clear hF;unfold addAt
          go_simp
          simp only [addUpon];exact hR _ (Below.refl _ _)
        simp only [Act.put, List.setIfInBounds_toArray, List.set_cons_zero, List.set_cons_succ];refine a_nil (by kernel_rfl) (by kernel_rfl) (by kernel_rfl) (fun _ _ h hb => h.far hb) (fun _ _ _ _ => trivial) (fun _ _ => trivial) (HP2.out.far (Below.refl _ _).drew) ?_;intro x W hE hW hF hD;clear hD;replace HP2 := hid (hW rfl);clear hF hW hE
        by_cases hcz : cq = 0
        · rw [decide_eq_true (Rat.num_eq_zero.2 hcz)] at htz;have HSN : Hid (CS (d + e + 1) 1 cs1 cs2 rs (i + 1) (j + 1)) := hid (by have := HSNs.out; rwa [if_pos hcz] at this);clear hcz
          go_wp2_with fail
          go_roundg (n1 + n2 - ((i + 1) + (j + 1)))
          case rel => exact ⟨(i + 1), (j + 1), v, rs, rfl, by omega, by omega, by go_num, by go_num, HP2.out, HSN.out⟩
          case measure => omega
        · rw [decide_eq_false (fun h => hcz (Rat.num_eq_zero.1 h))] at htz;have HSN : Hid (CS (d + e + 1) 1 cs1 cs2 (rs ++ [(cn, cq)]) (i + 1) (j + 1)) := hid (by have := HSNs.out; rwa [if_neg hcz] at this);clear hcz
          go_wp2_with fail
          refine add_region [[], [0], [], [2], [], [2, 3, 4], [2, 3, 4, 5], [2, 3, 4, 5, 6], [], [2, 3, 4, 5, 6, 7, 8], [2, 3, 4, 5, 6, 7, 8, 9], [0, 1, 2, 3, 4, 5, 6, 7, 8, 9, 10], [0, 1, 2, 3, 4, 5, 6, 7, 8, 9, 10, 11], [0, 1, 2, 3, 4, 5, 6, 7, 8, 9, 10, 11, 12]] (fun W => PLS w W s1 (some ⟨g1, o1, none⟩) n1 c1 t1 s2 (some ⟨g2, o2, none⟩) n2 c2 t2 tc S v v rs) (fun _ => True) ?_
          iterate 10
           apply a_con
           · intro x; go_simp; done
           · intro x W R hW hF hR;have p1 := heap_cell hW.pb.a 1;have k1 := heap_cell hW.hs 1;obtain ⟨q0, q1⟩ := HCELa.out W hW.pb.bel;clear hF;unfold addAt
             go_simp
             simp only [addUpon];exact hR _ (Below.refl _ _)
           simp only [Act.put, List.setIfInBounds_toArray, List.set_cons_zero, List.set_cons_succ]
          refine a_opq (fun u W => ∃ B, u = .slice (some ⟨B, 0, none⟩) 1 1 ∧ W.heap[B]? = some (.cells #[.string tka, .string tr] 79 (0, 0))) (fun _ _ _ h hb => let ⟨B, h1, h2⟩ := h; ⟨B, h1, (hb.block _ (lt_of_heap h2)).trans h2⟩) ?_ ?_ ?_
          · intro x; go_simp; done
          · intro x W R hW hF hR;clear hF;unfold addAt
            go_simp
            simp only [addUpon];exact hR _ _ ⟨W.heap.size, rfl, heap_alloc_new _ _⟩ ((Below.refl _ _).alloc (Nat.le_refl _) _)
          simp only [Act.put, List.setIfInBounds_toArray, List.set_cons_zero, List.set_cons_succ, List.length_cons, List.length_nil, Nat.zero_add, Nat.reduceAdd];refine a_wrt (fun x W => PLS w W s1 (some ⟨g1, o1, none⟩) n1 c1 t1 s2 (some ⟨g2, o2, none⟩) n2 c2 t2 tc S v (x 11) (rs ++ [(cn, cq)])) (fun _ _ _ h hb => h.far hb) (fun x x' w h hT => by have e := h 11 (.inl rfl); rw [e] at hT; exact hT) ?_ ?_ ?_
          · intro x; go_simp; done
          · intro x W R hW hF hD hR;obtain ⟨B, hx, hB⟩ := hF.1.2 rfl rfl rfl;clear hF;simp only [hx];have hrl := HRL.out;refine addAt_append (.tmp 45) (.tmp 54) 24 rfl (S + 1) 79 i0 _ 2 32 Tryz.underlying24 hi0' hz0 hz1 hz2 rfl (by decide) v rs.length (flat rs) rfl hW.row ⟨B, 0, none⟩ 1 1 [.string tka, .string tr] rfl rfl (World.news_of_block (cs := #[.string tka, .string tr]) hB) (by simp [Value.oneCell']) (by unfold maxLen; omega) (by omega) (lt_of_heap hW.hs) ?_;intro v' w' hrow hg;refine hR _ _ ?_ trivial hg.size;show PLS w w' s1 (some ⟨g1, o1, none⟩) n1 c1 t1 s2 (some ⟨g2, o2, none⟩) n2 c2 t2 tc S v (updX x 11 v' 11) (rs ++ [(cn, cq)]);rw [updX_self];refine hW.grow (x := (cn, cq)) hg ?_;rw [HTK.out, HTQ.out];exact hrow
          simp only [Act.put, List.setIfInBounds_toArray, List.set_cons_zero, List.set_cons_succ, List.length_cons, List.length_nil, Nat.zero_add, Nat.reduceAdd];apply a_late
          · intro x; go_simp; done
          · intro x W R hW hF hR;clear hF hW;unfold addAt
            go_simp
            simp only [addUpon];exact hR _ (Below.refl _ _)
          simp only [Act.put, List.setIfInBounds_toArray, List.set_cons_zero, List.set_cons_succ];refine a_wrt2 (fun x W => PLS w W s1 (some ⟨g1, o1, none⟩) n1 c1 t1 s2 (some ⟨g2, o2, none⟩) n2 c2 t2 tc S (x 11) (x 11) (rs ++ [(cn, cq)])) (fun _ _ _ h hb => h.far hb) (fun x x' w h hT => by have e := h 11 (.inr (List.contains_iff_mem.1 rfl)); rw [e] at hT; exact hT) ?_ ?_ ?_
          · intro x; go_simp; done
          · intro x W R hW hF hD hR;have hL := hF.2.1.2 rfl rfl rfl;simp only [AK.fact] at hL;obtain ⟨aq, gq, cv, hv, -, -⟩ := csl_of_row hL.row;simp only [hv];rw [hv] at hL;have e0 := heap_cell hL.hs 1;have fr := fun i => heap_fz hL.hs i
            clear hF;unfold addAt
            go_simp
            simp only [addUpon];refine hR _ _ ?_ trivial (by simp [World.setCell]);show PLS w _ s1 (some ⟨g1, o1, none⟩) n1 c1 t1 s2 (some ⟨g2, o2, none⟩) n2 c2 t2 tc S (updX x 13 _ 11) (updX x 13 _ 11) (rs ++ [(cn, cq)]);rw [updX_ne (i := 13) (j := 11) _ _ (by decide), hv];have := hL.set;rw [show (rs ++ [(cn, cq)]).length = rs.length + 1 by rw [List.length_append]; rfl] at this ⊢;exact this
          simp only [Act.put];refine a_nil (by kernel_rfl) (by kernel_rfl) (by kernel_rfl) (fun _ _ h hb => h.far hb) (fun _ _ _ _ => trivial) (fun _ _ => trivial) (HP2.out.far (Below.refl _ _).drew) ?_;intro x W hE hW hF hD;clear hD;have hls := hF.1.2 rfl;have HL2 := hid hls;clear hF hW hls
          go_wp2_with fail
          go_roundg (n1 + n2 - ((i + 1) + (j + 1)))
          case rel => exact ⟨(i + 1), (j + 1), _, _, rfl, by omega, by omega, by go_num, by go_num, HL2.out, HSN.out⟩
          case measure => omega
      · have hgt : ltB cs2[j].1 cs1[i].1 := h2;have hne12 : ¬ ltB cs1[i].1 cs2[j].1 := fun h => by unfold ltB at h; omega
        have HSN := hid (HCS.out.right1 HG2.out.can hlb (fun _ => hgt) ((HG2.out.ds _ (List.getElem_mem hlb)).mono (by omega)));have hls := n12 hne12;have hls2 := l21 hgt;obtain ⟨cn, hcn⟩ : ∃ cn, cs2[j].1 = cn := ⟨_, rfl⟩
        obtain ⟨cq, hcq⟩ : ∃ cq, cs2[j].2 = cq := ⟨_, rfl⟩
        have HTK : Hid ((⟨cn.toArray⟩ : ByteArray) = tkb) := hid (by rw [← hcn]; exact HTKb.out);have HTQ : Hid (TX cq = tqb) := hid (by rw [← hcq]; exact HTQb.out);rw [hcn, hcq] at HSN;clear hcn hcq
        clear h1 h2 h3 hgt hne12 l12 n12 l21 n21 HTKa HTQa HTKb HTQb hla hlb;obtain ⟨i0, hi0', hz0, hz1, hz2⟩ := info_parts infoCoef
        go_wp2_with fail
        refine q_region (fun W => Below wr.heap.size wr W) (by kernel_rfl) (by kernel_rfl) (Below.refl _ _).drew ?_
        repeat (first
         | (refine q_skip ?_ ?_
            · (go_simp; done)
            simp only [Act.put, List.setIfInBounds_toArray, List.set_cons_zero, List.set_cons_succ])
         | (refine q_take (v := ?_) ?_ ?_ ?_
            rotate_left
            · (go_simp; done)
            · intro W hW;have z0 := HC1.out W hW;have z1 := HC2.out W hW;have z2 := HD0.out W hW;have z3 := HD1.out W hW
              go_simp
              with_reducible rfl
            simp only [Act.put, List.setIfInBounds_toArray, List.set_cons_zero, List.set_cons_succ])
         | (refine q_skip ?_ ?_
            · (simp [Region.wanted, yielded, undef]; done)
            simp only [Act.put, List.setIfInBounds_toArray, List.set_cons_zero, List.set_cons_succ]))
        refine q_nil ?_;intro w2 hw2;replace HPS := hid (HPS.out.far hw2);replace HC1 : Hid (∀ W, Below w2.heap.size w2 W → _) := hid fun W hW => HC1.out W (hw2.trans (hW.mono hw2.size))
        replace HC2 : Hid (∀ W, Below w2.heap.size w2 W → _) := hid fun W hW => HC2.out W (hw2.trans (hW.mono hw2.size))
        replace HD0 : Hid (∀ W, Below w2.heap.size w2 W → _) := hid fun W hW => HD0.out W (hw2.trans (hW.mono hw2.size))
        replace HD1 : Hid (∀ W, Below w2.heap.size w2 W → _) := hid fun W hW => HD1.out W (hw2.trans (hW.mono hw2.size))
        clear hw2;have pa1 := heap_cell HPS.out.pb.a 1;have pb1 := heap_cell HPS.out.pb.b 1
        go_wp2_with fail
        refine q_region (fun W => Below w2.heap.size w2 W) (by kernel_rfl) (by kernel_rfl) (Below.refl _ _).drew ?_
        repeat (first
         | (refine q_skip ?_ ?_
            · (go_simp; done)
            simp only [Act.put, List.setIfInBounds_toArray, List.set_cons_zero, List.set_cons_succ])
         | (refine q_take (v := ?_) ?_ ?_ ?_
            rotate_left
            · (go_simp; done)
            · intro W hW;have z0 := HC1.out W hW;have z1 := HC2.out W hW;have z2 := HD0.out W hW;have z3 := HD1.out W hW
              go_simp
              with_reducible rfl
            simp only [Act.put, List.setIfInBounds_toArray, List.set_cons_zero, List.set_cons_succ])
         | (refine q_skip ?_ ?_
            · (simp [Region.wanted, yielded, undef]; done)
            simp only [Act.put, List.setIfInBounds_toArray, List.set_cons_zero, List.set_cons_succ]))
        refine q_nil ?_;intro w3 hw3;have HP2 := hid (HPS.out.far hw3);clear hw3
        go_wp2_with fail
        refine add_region [[], [0], [], [2], [], [2, 3, 4], [2, 3, 4, 5], [2, 3, 4, 5, 6], [0, 1, 2, 3, 4, 5, 6, 7], [0, 1, 2, 3, 4, 5, 6, 7, 8], [0, 1, 2, 3, 4, 5, 6, 7, 8, 9]] (fun W => PLS w W s1 (some ⟨g1, o1, none⟩) n1 c1 t1 s2 (some ⟨g2, o2, none⟩) n2 c2 t2 tc S v v rs) (fun _ => True) ?_
        iterate 7
         apply a_con
         · intro x; go_simp; done
         · intro x W R hW hF hR;have p1 := heap_cell hW.pb.b 1;have k1 := heap_cell hW.hs 1;obtain ⟨q0, q1⟩ := HCELb.out W hW.pb.bel;clear hF;unfold addAt
           go_simp
           simp only [addUpon];exact hR _ (Below.refl _ _)
         simp only [Act.put, List.setIfInBounds_toArray, List.set_cons_zero, List.set_cons_succ]
        refine a_opq (fun u W => ∃ B, u = .slice (some ⟨B, 0, none⟩) 1 1 ∧ W.heap[B]? = some (.cells #[.string tkb, .string tqb] 79 (0, 0))) (fun _ _ _ h hb => let ⟨B, h1, h2⟩ := h; ⟨B, h1, (hb.block _ (lt_of_heap h2)).trans h2⟩) ?_ ?_ ?_
        · intro x; go_simp; done
        · intro x W R hW hF hR;clear hF;unfold addAt
          go_simp
          simp only [addUpon];exact hR _ _ ⟨W.heap.size, rfl, heap_alloc_new _ _⟩ ((Below.refl _ _).alloc (Nat.le_refl _) _)
        simp only [Act.put, List.setIfInBounds_toArray, List.set_cons_zero, List.set_cons_succ, List.length_cons, List.length_nil, Nat.zero_add, Nat.reduceAdd];refine a_wrt (fun x W => PLS w W s1 (some ⟨g1, o1, none⟩) n1 c1 t1 s2 (some ⟨g2, o2, none⟩) n2 c2 t2 tc S v (x 8) (rs ++ [(cn, cq)])) (fun _ _ _ h hb => h.far hb) (fun x x' w h hT => by have e := h 8 (.inl rfl); rw [e] at hT; exact hT) ?_ ?_ ?_
        · intro x; go_simp; done
        · intro x W R hW hF hD hR;obtain ⟨B, hx, hB⟩ := hF.1.2 rfl rfl rfl;clear hF;simp only [hx];have hrl := HRL.out;refine addAt_append (.tmp 123) (.tmp 129) 24 rfl (S + 1) 79 i0 _ 2 32 Tryz.underlying24 hi0' hz0 hz1 hz2 rfl (by decide) v rs.length (flat rs) rfl hW.row ⟨B, 0, none⟩ 1 1 [.string tkb, .string tqb] rfl rfl (World.news_of_block (cs := #[.string tkb, .string tqb]) hB) (by simp [Value.oneCell']) (by unfold maxLen; omega) (by omega) (lt_of_heap hW.hs) ?_;intro v' w' hrow hg;refine hR _ _ ?_ trivial hg.size;show PLS w w' s1 (some ⟨g1, o1, none⟩) n1 c1 t1 s2 (some ⟨g2, o2, none⟩) n2 c2 t2 tc S v (updX x 8 v' 8) (rs ++ [(cn, cq)]);rw [updX_self];refine hW.grow (x := (cn, cq)) hg ?_;rw [HTK.out, HTQ.out];exact hrow
        simp only [Act.put, List.setIfInBounds_toArray, List.set_cons_zero, List.set_cons_succ, List.length_cons, List.length_nil, Nat.zero_add, Nat.reduceAdd];apply a_late
        · intro x; go_simp; done
        · intro x W R hW hF hR;clear hF hW;unfold addAt
          go_simp
          simp only [addUpon];exact hR _ (Below.refl _ _)
        simp only [Act.put, List.setIfInBounds_toArray, List.set_cons_zero, List.set_cons_succ];refine a_wrt2 (fun x W => PLS w W s1 (some ⟨g1, o1, none⟩) n1 c1 t1 s2 (some ⟨g2, o2, none⟩) n2 c2 t2 tc S (x 8) (x 8) (rs ++ [(cn, cq)])) (fun _ _ _ h hb => h.far hb) (fun x x' w h hT => by have e := h 8 (.inr (List.contains_iff_mem.1 rfl)); rw [e] at hT; exact hT) ?_ ?_ ?_
        · intro x; go_simp; done
        · intro x W R hW hF hD hR;have hL := hF.2.1.2 rfl rfl rfl;simp only [AK.fact] at hL;obtain ⟨aq, gq, cv, hv, -, -⟩ := csl_of_row hL.row;simp only [hv];rw [hv] at hL;have e0 := heap_cell hL.hs 1;have fr := fun i => heap_fz hL.hs i
          clear hF;unfold addAt
          go_simp
          simp only [addUpon];refine hR _ _ ?_ trivial (by simp [World.setCell]);show PLS w _ s1 (some ⟨g1, o1, none⟩) n1 c1 t1 s2 (some ⟨g2, o2, none⟩) n2 c2 t2 tc S (updX x 10 _ 8) (updX x 10 _ 8) (rs ++ [(cn, cq)]);rw [updX_ne (i := 10) (j := 8) _ _ (by decide), hv];have := hL.set;rw [show (rs ++ [(cn, cq)]).length = rs.length + 1 by rw [List.length_append]; rfl] at this ⊢;exact this
        simp only [Act.put];refine a_nil (by kernel_rfl) (by kernel_rfl) (by kernel_rfl) (fun _ _ h hb => h.far hb) (fun _ _ _ _ => trivial) (fun _ _ => trivial) (HP2.out.far (Below.refl _ _).drew) ?_;intro x W hE hW hF hD;clear hD;have hls := hF.1.2 rfl;have HL2 := hid hls;clear hF hW hls
        go_wp2_with fail
        go_roundg (n1 + n2 - (i + (j + 1)))
        case rel => exact ⟨i, (j + 1), _, _, rfl, by omega, by omega, rfl, by go_num, HL2.out, HSN.out⟩
        case measure => omega
    · have hbn : decide ((j : Int) = (n2 : Int)) = true := decide_eq_true (by omega);have hbn' : ((j : Int) == (n2 : Int)) = true := by rw [beq_iff_eq]; omega
      have hjn : j = n2 := by omega
      have HSN := hid (HCS.out.left1 HG1.out.can hla (fun h => absurd h (by rw [HN2.out]; exact hltb)) ((HG1.out.ds _ (List.getElem_mem hla)).mono (by omega)));have C1 : ∀ W, Below wr.heap.size wr W → W.cell? ⟨w.heap.size, 1, none⟩ = some (.slice (some ⟨g1, o1, none⟩) n1 c1) := fun W hW => heap_cell (HPS.out.far hW).pb.a 1
      have C2 : ∀ W, Below wr.heap.size wr W → W.cell? ⟨w.heap.size + 1, 1, none⟩ = some (.slice a2 n2 c2) := fun W hW => heap_cell (HPS.out.far hW).pb.b 1
      have HC1 := hid C1;have HC2 := hid C2;have HJN := hid hjn;obtain ⟨cn, hcn⟩ : ∃ cn, cs1[i].1 = cn := ⟨_, rfl⟩
      obtain ⟨cq, hcq⟩ : ∃ cq, cs1[i].2 = cq := ⟨_, rfl⟩
      have HTK : Hid ((⟨cn.toArray⟩ : ByteArray) = tka) := hid (by rw [← hcn]; exact HTKa.out);have HTQ : Hid (TX cq = tqa) := hid (by rw [← hcq]; exact HTQa.out);rw [hcn, hcq] at HSN;clear hcn hcq
      clear C1 C2 htka htqa HTKa HTQa hla hltb hjn;obtain ⟨i0, hi0', hz0, hz1, hz2⟩ := info_parts infoCoef
      go_wp2_with fail
      refine q_region (fun W => Below wr.heap.size wr W) (by kernel_rfl) (by kernel_rfl) (Below.refl _ _).drew ?_
      repeat (first
       | (refine q_skip ?_ ?_
          · (go_simp; done)
          simp only [Act.put, List.setIfInBounds_toArray, List.set_cons_zero, List.set_cons_succ])
       | (refine q_take (v := ?_) ?_ ?_ ?_
          rotate_left
          · (go_simp; done)
          · intro W hW;have z0 := HC1.out W hW;have z1 := HC2.out W hW
            go_simp
            with_reducible rfl
          simp only [Act.put, List.setIfInBounds_toArray, List.set_cons_zero, List.set_cons_succ])
       | (refine q_skip ?_ ?_
          · (simp [Region.wanted, yielded, undef]; done)
          simp only [Act.put, List.setIfInBounds_toArray, List.set_cons_zero, List.set_cons_succ]))
      refine q_nil ?_;intro w2 hw2;have HP2 := hid (HPS.out.far hw2);clear hw2
      go_wp2_with fail
      refine add_region [[], [0], [], [2], [], [2, 3, 4], [2, 3, 4, 5], [2, 3, 4, 5, 6], [0, 1, 2, 3, 4, 5, 6, 7], [0, 1, 2, 3, 4, 5, 6, 7, 8], [0, 1, 2, 3, 4, 5, 6, 7, 8, 9]] (fun W => PLS w W s1 (some ⟨g1, o1, none⟩) n1 c1 t1 s2 a2 n2 c2 t2 tc S v v rs) (fun _ => True) ?_
      iterate 7
       apply a_con
       · intro x; go_simp; done
       · intro x W R hW hF hR;have p1 := heap_cell hW.pb.a 1;have k1 := heap_cell hW.hs 1;obtain ⟨q0, q1⟩ := HCELa.out W hW.pb.bel;clear hF;unfold addAt
         go_simp
         simp only [addUpon];exact hR _ (Below.refl _ _)
       simp only [Act.put, List.setIfInBounds_toArray, List.set_cons_zero, List.set_cons_succ]
      refine a_opq (fun u W => ∃ B, u = .slice (some ⟨B, 0, none⟩) 1 1 ∧ W.heap[B]? = some (.cells #[.string tka, .string tqa] 79 (0, 0))) (fun _ _ _ h hb => let ⟨B, h1, h2⟩ := h; ⟨B, h1, (hb.block _ (lt_of_heap h2)).trans h2⟩) ?_ ?_ ?_
      · intro x; go_simp; done
      · intro x W R hW hF hR;clear hF;unfold addAt
        go_simp
        simp only [addUpon];exact hR _ _ ⟨W.heap.size, rfl, heap_alloc_new _ _⟩ ((Below.refl _ _).alloc (Nat.le_refl _) _)
      simp only [Act.put, List.setIfInBounds_toArray, List.set_cons_zero, List.set_cons_succ, List.length_cons, List.length_nil, Nat.zero_add, Nat.reduceAdd];refine a_wrt (fun x W => PLS w W s1 (some ⟨g1, o1, none⟩) n1 c1 t1 s2 a2 n2 c2 t2 tc S v (x 8) (rs ++ [(cn, cq)])) (fun _ _ _ h hb => h.far hb) (fun x x' w h hT => by have e := h 8 (.inl rfl); rw [e] at hT; exact hT) ?_ ?_ ?_
      · intro x; go_simp; done
      · intro x W R hW hF hD hR;obtain ⟨B, hx, hB⟩ := hF.1.2 rfl rfl rfl;clear hF;simp only [hx];have hrl := HRL.out;refine addAt_append (.tmp 90) (.tmp 96) 24 rfl (S + 1) 79 i0 _ 2 32 Tryz.underlying24 hi0' hz0 hz1 hz2 rfl (by decide) v rs.length (flat rs) rfl hW.row ⟨B, 0, none⟩ 1 1 [.string tka, .string tqa] rfl rfl (World.news_of_block (cs := #[.string tka, .string tqa]) hB) (by simp [Value.oneCell']) (by unfold maxLen; omega) (by omega) (lt_of_heap hW.hs) ?_;intro v' w' hrow hg;refine hR _ _ ?_ trivial hg.size;show PLS w w' s1 (some ⟨g1, o1, none⟩) n1 c1 t1 s2 a2 n2 c2 t2 tc S v (updX x 8 v' 8) (rs ++ [(cn, cq)]);rw [updX_self];refine hW.grow (x := (cn, cq)) hg ?_;rw [HTK.out, HTQ.out];exact hrow
      simp only [Act.put, List.setIfInBounds_toArray, List.set_cons_zero, List.set_cons_succ, List.length_cons, List.length_nil, Nat.zero_add, Nat.reduceAdd];apply a_late
      · intro x; go_simp; done
      · intro x W R hW hF hR;clear hF hW;unfold addAt
        go_simp
        simp only [addUpon];exact hR _ (Below.refl _ _)
      simp only [Act.put, List.setIfInBounds_toArray, List.set_cons_zero, List.set_cons_succ];refine a_wrt2 (fun x W => PLS w W s1 (some ⟨g1, o1, none⟩) n1 c1 t1 s2 a2 n2 c2 t2 tc S (x 8) (x 8) (rs ++ [(cn, cq)])) (fun _ _ _ h hb => h.far hb) (fun x x' w h hT => by have e := h 8 (.inr (List.contains_iff_mem.1 rfl)); rw [e] at hT; exact hT) ?_ ?_ ?_
      · intro x; go_simp; done
      · intro x W R hW hF hD hR;have hL := hF.2.1.2 rfl rfl rfl;simp only [AK.fact] at hL;obtain ⟨aq, gq, cv, hv, -, -⟩ := csl_of_row hL.row;simp only [hv];rw [hv] at hL;have e0 := heap_cell hL.hs 1;have fr := fun i => heap_fz hL.hs i
        clear hF;unfold addAt
        go_simp
        simp only [addUpon];refine hR _ _ ?_ trivial (by simp [World.setCell]);show PLS w _ s1 (some ⟨g1, o1, none⟩) n1 c1 t1 s2 a2 n2 c2 t2 tc S (updX x 10 _ 8) (updX x 10 _ 8) (rs ++ [(cn, cq)]);rw [updX_ne (i := 10) (j := 8) _ _ (by decide), hv];have := hL.set;rw [show (rs ++ [(cn, cq)]).length = rs.length + 1 by rw [List.length_append]; rfl] at this ⊢;exact this
      simp only [Act.put];refine a_nil (by kernel_rfl) (by kernel_rfl) (by kernel_rfl) (fun _ _ h hb => h.far hb) (fun _ _ _ _ => trivial) (fun _ _ => trivial) (HP2.out.far (Below.refl _ _).drew) ?_;intro x W hE hW hF hD;clear hD;have hls := hF.1.2 rfl;have HL2 := hid hls;clear hF hW hls
      go_wp2_with fail
      go_roundg (n1 + n2 - ((i + 1) + j))
      case rel => exact ⟨(i + 1), j, _, _, rfl, by omega, by omega, by go_num, rfl, HL2.out, HSN.out⟩
      case measure => omega
  · by_cases hltb : j < n2
    · have hb' : (j : Int) < (n2 : Int) := by omega
      have ha' : ¬ (i : Int) < (n1 : Int) := by omega
      have ha2 : decide ((i : Int) < (n1 : Int)) = false := decide_eq_false ha';have ha4 : decide (i < n1) = false := decide_eq_false hlta;have hbn : decide ((j : Int) = (n2 : Int)) = false := decide_eq_false (by omega);have hbn' : ((j : Int) == (n2 : Int)) = false := by rw [beq_eq_false_iff_ne]; omega
      have han : decide ((i : Int) = (n1 : Int)) = true := decide_eq_true (by omega);have han' : ((i : Int) == (n1 : Int)) = true := by rw [beq_iff_eq]; omega
      have hin : i = n1 := by omega
      have hlb : j < cs2.length := by rw [HN2.out]; exact hltb
      have hadb := HH2.out.ad (by omega);subst hadb;obtain ⟨tkb, htkb⟩ : ∃ tk : ByteArray, (⟨cs2[j].1.toArray⟩ : ByteArray) = tk := ⟨_, rfl⟩
      obtain ⟨tqb, htqb⟩ : ∃ tq : ByteArray, TX cs2[j].2 = tq := ⟨_, rfl⟩
      have HCELb : Hid (∀ W, Below w.heap.size w W → W.cell? ⟨g2, o2 + j * 2, none⟩ = some (.string tkb) ∧ W.cell? ⟨g2, o2 + j * 2 + 1, none⟩ = some (.string tqb)) := hid fun W hW => ⟨by rw [← htkb]; exact (HH2.out.far hW).nm j hlb, by rw [← htqb]; exact (HH2.out.far hW).nu j hlb⟩
      have HTKb := hid htkb;have HTQb := hid htqb
      have HSN := hid (HCS.out.right1 HG2.out.can hlb (fun h => absurd h (by rw [HN1.out]; exact hlta)) ((HG2.out.ds _ (List.getElem_mem hlb)).mono (by omega)));have C1 : ∀ W, Below wr.heap.size wr W → W.cell? ⟨w.heap.size, 1, none⟩ = some (.slice a1 n1 c1) := fun W hW => heap_cell (HPS.out.far hW).pb.a 1
      have C2 : ∀ W, Below wr.heap.size wr W → W.cell? ⟨w.heap.size + 1, 1, none⟩ = some (.slice (some ⟨g2, o2, none⟩) n2 c2) := fun W hW => heap_cell (HPS.out.far hW).pb.b 1
      have HC1 := hid C1;have HC2 := hid C2;have HIN := hid hin;obtain ⟨cn, hcn⟩ : ∃ cn, cs2[j].1 = cn := ⟨_, rfl⟩
      obtain ⟨cq, hcq⟩ : ∃ cq, cs2[j].2 = cq := ⟨_, rfl⟩
      have HTK : Hid ((⟨cn.toArray⟩ : ByteArray) = tkb) := hid (by rw [← hcn]; exact HTKb.out);have HTQ : Hid (TX cq = tqb) := hid (by rw [← hcq]; exact HTQb.out);rw [hcn, hcq] at HSN;clear hcn hcq
      clear C1 C2 htkb htqb HTKb HTQb hlb hin;obtain ⟨i0, hi0', hz0, hz1, hz2⟩ := info_parts infoCoef
      go_wp2_with fail
      refine q_region (fun W => Below wr.heap.size wr W) (by kernel_rfl) (by kernel_rfl) (Below.refl _ _).drew ?_
      repeat (first
       | (refine q_skip ?_ ?_
          · (go_simp; done)
          simp only [Act.put, List.setIfInBounds_toArray, List.set_cons_zero, List.set_cons_succ])
       | (refine q_take (v := ?_) ?_ ?_ ?_
          rotate_left
          · (go_simp; done)
          · intro W hW;have z0 := HC1.out W hW;have z1 := HC2.out W hW
            go_simp
            with_reducible rfl
          simp only [Act.put, List.setIfInBounds_toArray, List.set_cons_zero, List.set_cons_succ])
       | (refine q_skip ?_ ?_
          · (simp [Region.wanted, yielded, undef]; done)
          simp only [Act.put, List.setIfInBounds_toArray, List.set_cons_zero, List.set_cons_succ]))
      refine q_nil ?_;intro w2 hw2;replace HPS := hid (HPS.out.far hw2);replace HC1 : Hid (∀ W, Below w2.heap.size w2 W → _) := hid fun W hW => HC1.out W (hw2.trans (hW.mono hw2.size))
      replace HC2 : Hid (∀ W, Below w2.heap.size w2 W → _) := hid fun W hW => HC2.out W (hw2.trans (hW.mono hw2.size))
      clear hw2;have pa1 := heap_cell HPS.out.pb.a 1;have pb1 := heap_cell HPS.out.pb.b 1
      go_wp2_with fail
      refine q_region (fun W => Below w2.heap.size w2 W) (by kernel_rfl) (by kernel_rfl) (Below.refl _ _).drew ?_
      repeat (first
       | (refine q_skip ?_ ?_
          · (go_simp; done)
          simp only [Act.put, List.setIfInBounds_toArray, List.set_cons_zero, List.set_cons_succ])
       | (refine q_take (v := ?_) ?_ ?_ ?_
          rotate_left
          · (go_simp; done)
          · intro W hW;have z0 := HC1.out W hW;have z1 := HC2.out W hW
            go_simp
            with_reducible rfl
          simp only [Act.put, List.setIfInBounds_toArray, List.set_cons_zero, List.set_cons_succ])
       | (refine q_skip ?_ ?_
          · (simp [Region.wanted, yielded, undef]; done)
          simp only [Act.put, List.setIfInBounds_toArray, List.set_cons_zero, List.set_cons_succ]))
      refine q_nil ?_;intro w3 hw3;have HP2 := hid (HPS.out.far hw3);clear hw3
      go_wp2_with fail
      refine add_region [[], [0], [], [2], [], [2, 3, 4], [2, 3, 4, 5], [2, 3, 4, 5, 6], [0, 1, 2, 3, 4, 5, 6, 7], [0, 1, 2, 3, 4, 5, 6, 7, 8], [0, 1, 2, 3, 4, 5, 6, 7, 8, 9]] (fun W => PLS w W s1 a1 n1 c1 t1 s2 (some ⟨g2, o2, none⟩) n2 c2 t2 tc S v v rs) (fun _ => True) ?_
      iterate 7
       apply a_con
       · intro x; go_simp; done
       · intro x W R hW hF hR;have p1 := heap_cell hW.pb.b 1;have k1 := heap_cell hW.hs 1;obtain ⟨q0, q1⟩ := HCELb.out W hW.pb.bel;clear hF;unfold addAt
         go_simp
         simp only [addUpon];exact hR _ (Below.refl _ _)
       simp only [Act.put, List.setIfInBounds_toArray, List.set_cons_zero, List.set_cons_succ]
      refine a_opq (fun u W => ∃ B, u = .slice (some ⟨B, 0, none⟩) 1 1 ∧ W.heap[B]? = some (.cells #[.string tkb, .string tqb] 79 (0, 0))) (fun _ _ _ h hb => let ⟨B, h1, h2⟩ := h; ⟨B, h1, (hb.block _ (lt_of_heap h2)).trans h2⟩) ?_ ?_ ?_
      · intro x; go_simp; done
      · intro x W R hW hF hR;clear hF;unfold addAt
        go_simp
        simp only [addUpon];exact hR _ _ ⟨W.heap.size, rfl, heap_alloc_new _ _⟩ ((Below.refl _ _).alloc (Nat.le_refl _) _)
      simp only [Act.put, List.setIfInBounds_toArray, List.set_cons_zero, List.set_cons_succ, List.length_cons, List.length_nil, Nat.zero_add, Nat.reduceAdd];refine a_wrt (fun x W => PLS w W s1 a1 n1 c1 t1 s2 (some ⟨g2, o2, none⟩) n2 c2 t2 tc S v (x 8) (rs ++ [(cn, cq)])) (fun _ _ _ h hb => h.far hb) (fun x x' w h hT => by have e := h 8 (.inl rfl); rw [e] at hT; exact hT) ?_ ?_ ?_
      · intro x; go_simp; done
      · intro x W R hW hF hD hR;obtain ⟨B, hx, hB⟩ := hF.1.2 rfl rfl rfl;clear hF;simp only [hx];have hrl := HRL.out;refine addAt_append (.tmp 123) (.tmp 129) 24 rfl (S + 1) 79 i0 _ 2 32 Tryz.underlying24 hi0' hz0 hz1 hz2 rfl (by decide) v rs.length (flat rs) rfl hW.row ⟨B, 0, none⟩ 1 1 [.string tkb, .string tqb] rfl rfl (World.news_of_block (cs := #[.string tkb, .string tqb]) hB) (by simp [Value.oneCell']) (by unfold maxLen; omega) (by omega) (lt_of_heap hW.hs) ?_;intro v' w' hrow hg;refine hR _ _ ?_ trivial hg.size;show PLS w w' s1 a1 n1 c1 t1 s2 (some ⟨g2, o2, none⟩) n2 c2 t2 tc S v (updX x 8 v' 8) (rs ++ [(cn, cq)]);rw [updX_self];refine hW.grow (x := (cn, cq)) hg ?_;rw [HTK.out, HTQ.out];exact hrow
      simp only [Act.put, List.setIfInBounds_toArray, List.set_cons_zero, List.set_cons_succ, List.length_cons, List.length_nil, Nat.zero_add, Nat.reduceAdd];apply a_late
      · intro x; go_simp; done
      · intro x W R hW hF hR;clear hF hW;unfold addAt
        go_simp
        simp only [addUpon];exact hR _ (Below.refl _ _)
      simp only [Act.put, List.setIfInBounds_toArray, List.set_cons_zero, List.set_cons_succ];refine a_wrt2 (fun x W => PLS w W s1 a1 n1 c1 t1 s2 (some ⟨g2, o2, none⟩) n2 c2 t2 tc S (x 8) (x 8) (rs ++ [(cn, cq)])) (fun _ _ _ h hb => h.far hb) (fun x x' w h hT => by have e := h 8 (.inr (List.contains_iff_mem.1 rfl)); rw [e] at hT; exact hT) ?_ ?_ ?_
      · intro x; go_simp; done
      · intro x W R hW hF hD hR;have hL := hF.2.1.2 rfl rfl rfl;simp only [AK.fact] at hL;obtain ⟨aq, gq, cv, hv, -, -⟩ := csl_of_row hL.row;simp only [hv];rw [hv] at hL;have e0 := heap_cell hL.hs 1;have fr := fun i => heap_fz hL.hs i
        clear hF;unfold addAt
        go_simp
        simp only [addUpon];refine hR _ _ ?_ trivial (by simp [World.setCell]);show PLS w _ s1 a1 n1 c1 t1 s2 (some ⟨g2, o2, none⟩) n2 c2 t2 tc S (updX x 10 _ 8) (updX x 10 _ 8) (rs ++ [(cn, cq)]);rw [updX_ne (i := 10) (j := 8) _ _ (by decide), hv];have := hL.set;rw [show (rs ++ [(cn, cq)]).length = rs.length + 1 by rw [List.length_append]; rfl] at this ⊢;exact this
      simp only [Act.put];refine a_nil (by kernel_rfl) (by kernel_rfl) (by kernel_rfl) (fun _ _ h hb => h.far hb) (fun _ _ _ _ => trivial) (fun _ _ => trivial) (HP2.out.far (Below.refl _ _).drew) ?_;intro x W hE hW hF hD;clear hD;have hls := hF.1.2 rfl;have HL2 := hid hls;clear hF hW hls
      go_wp2_with fail
      go_roundg (n1 + n2 - (i + (j + 1)))
      case rel => exact ⟨i, (j + 1), _, _, rfl, by omega, by omega, rfl, by go_num, HL2.out, HSN.out⟩
      case measure => omega
    · have hin : i = cs1.length := by rw [HN1.out]; omega
      have hjn : j = cs2.length := by rw [HN2.out]; omega
      have hb' : ¬ (j : Int) < (n2 : Int) := by omega
      have ha' : ¬ (i : Int) < (n1 : Int) := by omega
      have hst : Can ltB rs ∧ ∀ n, cof rs n = cof cs1 n + 1 * cof cs2 n := by
       have := HCS.out;rw [hin, hjn] at this;exact this.stop
      have hgu : GoodU U (d + e + 1) rs := ⟨hst.1, HU1.out _ _ _ HCS.out, HCS.out.ds⟩
      have HGU := hid hgu;have HST := hid hst.2;obtain ⟨ao, gq, cap, hv, hc, hty⟩ := csl_of_row2 HPS.out.row;subst hv;have HCC := hid hc;have HTY := hid hty;have k0 := heap_cell HPS.out.hs 0;have k1 := heap_cell HPS.out.hs 1;have k2 := heap_cell HPS.out.hs 2;have r0 := heap_cell HPS.out.pb.r 0;have r1 := heap_cell HPS.out.pb.r 1;have r2 := heap_cell HPS.out.pb.r 2;have fr := fun i => heap_fz HPS.out.pb.r i
      clear hst hgu hc hty hin hjn
      go_wp2_with fail
      refine end_lin rfl rfl rfl HPS.out.pb.r ?_;refine ⟨rs, ao, gq, cap, by rw [HTC.out], ?_, ?_, HGU.out, HDC.out, fun n => by rw [HST.out n, Rat.one_mul], ?_⟩
      · exact (csl_but HCC.out HTY.out HPS.out.pb.r (by decide) fun g hg => set3_other _ _ _ hg).1
      · exact (csl_but HCC.out HTY.out HPS.out.pb.r (by decide) fun g hg => set3_other _ _ _ hg).2
      · exact ((HPS.out.pb.bel.setCell (show w.heap.size ≤ w.heap.size + 2 by omega) _).setCell (show w.heap.size ≤ w.heap.size + 2 by omega) _).setCell (show w.heap.size ≤ w.heap.size + 2 by omega) _
end
end Go.Proofs.YteoklapcifonaaaGreatDoor

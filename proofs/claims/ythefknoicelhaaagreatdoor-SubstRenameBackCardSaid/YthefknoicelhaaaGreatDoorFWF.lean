/- The reference's tree over a term's node. -/
import Derived.Test.YthefknoicelhaaaGreatDoorFWE
import Derived.Test.YthefknoicelhaaaGreatDoorFVL
import Derived.Test.YthefknoicelhaaaGreatDoorFNL
import Derived.Test.YthefknoicelhaaaGreatDoorFUJ
namespace Go.Proofs.YthefknoicelhaaaGreatDoor.Se
open Go.RowKit Nmx

def TP (w : World) (n : Nat) (s : Int) (e : Ending) (w' : World) : Prop := e = .returned (.tuple #[.int .i64 n, .int .i64 s]) ∧ Below w.heap.size w w'
/-- what the worlds of the first tests keep -/
structure TR (S g p : Nat) (op sort kids : Int) (name num : ByteArray) (w W : World) : Prop where
  c0 : W.cell? ⟨g, p * 5, none⟩ = some (.int .i64 op)
  c1 : W.cell? ⟨g, p * 5 + 1, none⟩ = some (.int .i64 sort)
  c2 : W.cell? ⟨g, p * 5 + 2, none⟩ = some (.string name)
  c3 : W.cell? ⟨g, p * 5 + 3, none⟩ = some (.string num)
  c4 : W.cell? ⟨g, p * 5 + 4, none⟩ = some (.int .i64 kids)
  lt : g < W.heap.size
  bel : Below S w W
theorem TR.far {S g p : Nat} {op sort kids : Int} {name num : ByteArray} {w W W' : World} (h : TR S g p op sort kids name num w W) (hb : Below W.heap.size W W') (hs : S ≤ W.heap.size) : TR S g p op sort kids name num w W' :=
  ⟨(hb.cell (p := ⟨g, p * 5, none⟩) h.lt).trans h.c0, (hb.cell (p := ⟨g, p * 5 + 1, none⟩) h.lt).trans h.c1, (hb.cell (p := ⟨g, p * 5 + 2, none⟩) h.lt).trans h.c2, (hb.cell (p := ⟨g, p * 5 + 3, none⟩) h.lt).trans h.c3, (hb.cell (p := ⟨g, p * 5 + 4, none⟩) h.lt).trans h.c4, Nat.lt_of_lt_of_le h.lt hb.size, h.bel.trans (hb.mono hs)⟩
theorem TR.drew {S g p : Nat} {op sort kids : Int} {name num : ByteArray} {w W : World} (h : TR S g p op sort kids name num w W) : TR S g p op sort kids name num w W.drew :=
  ⟨h.c0, h.c1, h.c2, h.c3, h.c4, h.lt, below_draws h.bel 1⟩
theorem TR.of {S g p : Nat} {x : Nd} {T : List Nd} {w W : World} (hN : NodesAt W g T) (hx : T[p]? = some x) (hg : g < W.heap.size) (hb : Below S w W) : TR S g p x.op x.sort x.kids x.name x.num w W :=
  ⟨hN p x hx 0 (by decide), hN p x hx 1 (by decide), hN p x hx 2 (by decide), hN p x hx 3 (by decide), hN p x hx 4 (by decide), hg, hb⟩
theorem TR.grow {S g p : Nat} {op sort kids : Int} {name num : ByteArray} {w W W' : World} {b : Option Nat} (h : TR S g p op sort kids name num w W) (hg : W.grownBy W' b) (hb : ∀ k, b = some k → S ≤ k) (hgS : g < S) (hs : S ≤ W.heap.size) : TR S g p op sort kids name num w W' := by
  have hne : ∀ j, W'.cell? ⟨g, j, none⟩ = W.cell? ⟨g, j, none⟩ := fun j => by
    rw [World.cell?, World.cell?, hg.block g h.lt (fun e => by have := hb g e.symm; omega)]
  exact ⟨(hne _).trans h.c0, (hne _).trans h.c1, (hne _).trans h.c2, (hne _).trans h.c3, (hne _).trans h.c4, Nat.lt_of_lt_of_le h.lt hg.size, h.bel.grown hg hs (fun k e => hb k e)⟩
theorem WE.step {q d : Nat} {rest : List Nd} {s : Int} {tl : List Int} {Er : List Nat} {Sr : List Int} (h : WE q d rest (s :: tl) Er Sr) : ∃ d' x ks ss rest' Ek Sk Er' Sr', d = d' + 1 ∧ rest = x :: (ks ++ rest') ∧ WE (q + 1) d' ks ss Ek Sk ∧ NodeOk x ks ss s ∧ WE (q + 1 + ks.length) (d' + 1) rest' tl Er' Sr' := by
  cases h with
  | cons hk hn hr => exact ⟨_, _, _, _, _, _, _, _, _, rfl, rfl, hk, hn, hr⟩
theorem row_int {w : World} {b : Nat} {v : Value} {l : List Int} (h : w.ownsRow b 3 1 v l.length (intsI l)) (h0 : 0 < w.heap.size) (hf : l.length ≤ 1000000) : ∃ ao g cap, v = .slice ao l.length cap ∧ RowI w ao g l := by
  have h' := h
  obtain ⟨_, h1 | ⟨g, cap, cur, hv, _⟩⟩ := h'
  · exact ⟨none, 0, 0, by rw [h1.1, h1.2], fun h => absurd h1.2 h, h0, hf, fun t ht => by omega⟩
  · refine ⟨_, g, cap, hv, fun _ => rfl, (h.lt g (by rw [hv]; rfl)).2, hf, fun t ht => ?_⟩
    rw [hv] at h
    rw [h.cellAt t (by omega)]; simp [intsI, ht]
theorem agr_get {T : List Nd} {p : Nat} {x : Nd} {ks : List Nd} (h : Agr ndZ 0 T p (x :: ks)) (hp : p < T.length) : T[p]? = some x := by
  have h1 := h.head
  rw [Nat.sub_zero, List.getD_eq_getElem?_getD, List.getElem?_eq_getElem hp] at h1
  rw [List.getElem?_eq_getElem hp]; exact congrArg some h1
theorem fp_parts {x : Nd} (h : fpF x = true) : fldF x = true ∧ 1 ≤ x.op ∧ x.op ≤ 20 ∧ (arF x.op).1 ≤ x.kids := by
  unfold fpF at h
  simp only [Bool.and_eq_true, decide_eq_true_eq] at h
  obtain ⟨h1, h2, h3, h4, h5⟩ := h
  refine ⟨?_, h1, h2, h3⟩
  unfold fldF
  simp only [h1, h2, h5, decide_true, Bool.and_true]
theorem rFields_b (x : Nd) (w : World) (hs : x.num.size ≤ 1000) {b : Bool} (h : fldF x = b) : Calls Tryz.prog 73 #[x.val] w fun e w' => e = .returned (.bool b) ∧ Below w.heap.size w w' := by
  rw [← h]; exact refFields_any x w hs
section
set_option maxHeartbeats 8000000
set_option maxRecDepth 100000
theorem tree_we (d : Nat) : ∀ (T : List Nd) (g cap p : Nat) (x : Nd) (ks : List Nd) (ss : List Int) (s : Int) (Ek : List Nat) (Sk : List Int) (dep : Nat) (w : World), WE (p + 1) d ks ss Ek Sk → NodeOk x ks ss s → Agr ndZ 0 T p (x :: ks) → p + 1 + ks.length ≤ T.length → (∀ y ∈ T, y.num.size ≤ 1000) → d + dep ≤ 256 → T.length ≤ 1000000 → NodesAt w g T → g < w.heap.size →
    Calls Tryz.prog 50 #[.slice (some ⟨g, 0, none⟩) T.length cap, .int .i64 p, .int .i64 dep] w (TP w (p + 1 + ks.length) s) := by
  induction d using Nat.strongRecOn with
  | _ d ih =>
  intro T g cap p x ks ss s Ek Sk dep w hw hn ha hle hsz hd hT hN hg
  obtain ⟨i0, hi, hz0, hz1, hz2⟩ := info_parts infoInt
  have lk := hw.lens
  have hp : p < T.length := by omega
  have hx := agr_get ha hp
  have hxs : x.num.size ≤ 1000 := hsz x (List.mem_of_getElem? hx)
  obtain ⟨hfl, ho1, ho2, hak⟩ := fp_parts hn.fp
  obtain ⟨first, hfirst⟩ : ∃ f : Int, f = if ss = [] then 0 else (ks.getD 0 ndZ).op := ⟨_, rfl⟩
  obtain ⟨hrr, hra, hs1, hs4⟩ := rr_of hn.fp hn.kn hn.rs hw.sorts (first := first) (fun e => by
    rw [hfirst, if_neg, hn.mul e]
    rintro rfl
    rw [hn.kn, e] at hak
    exact absurd hak (by decide))
  have hkn := hn.kn
  have hTR := TR.of hN hx hg (Below.refl w.heap.size w)
  have HT0 := Lib.hid hTR
  have HN := Lib.hid hN
  have HI := Lib.hid ih
  have HW := Lib.hid hw
  have HA := Lib.hid ha.tail
  have HSZ := Lib.hid hsz
  have HFI := Lib.hid hfirst
  have HSO := Lib.hid hw.sorts
  have HLE := Lib.hid hle
  obtain ⟨m, hm⟩ : ∃ m, ss.length = m := ⟨_, rfl⟩
  obtain ⟨n, hnn⟩ : ∃ n, T.length = n := ⟨_, rfl⟩
  have hmn : m ≤ n := by omega
  rw [hm] at hkn
  rw [hnn] at hp hT
  have HM := Lib.hid hm
  have HNN := Lib.hid hnn
  rw [hnn]
  obtain ⟨op, sort, name, num, kids⟩ := x
  simp only at hkn hfl hra hxs hrr ho1 ho2 hTR HT0
  subst hkn
  have HRR := Lib.hid hrr
  have HRA := Lib.hid hra
  have hfi := fun W : World => rFields_b ⟨op, sort, name, num, (m : Int)⟩ W hxs hfl
  have har := fun W : World => rArity_b op (m : Int) W (by omega) hra
  unfold Nd.val at hfi
  simp only at hfi
  have HOP := Lib.hid (And.intro ho1 ho2)
  have HD := Lib.hid hd
  have hdp : dep ≤ 256 := by omega
  have g1 : decide ((n : Int) ≤ (p : Int)) = false := decide_eq_false (by omega)
  have g1n : decide (n ≤ p) = false := decide_eq_false (by omega)
  have g3n : decide (n < m) = false := decide_eq_false (by omega)
  have g2 : decide ((256 : Int) < (dep : Int)) = false := decide_eq_false (by omega)
  have g3 : decide ((n : Int) < (m : Int)) = false := decide_eq_false (by omega)
  clear hle hsz hd hN hn hw ha hx hfirst hm hnn lk hak hrr hra hfl ih ho1 ho2 hs1 hs4 hxs
  generalize hB : w.heap.size = B at *
  have HBe := Lib.hid hB
  have hB0 : 0 < B := by omega
  go_enter Tryz.func50, Tryz.ntmps50
  go_wp2
  refine add_region [[], [], [1], [0, 1, 2], [0, 1, 2, 3], [0, 1, 2, 3, 4], [0, 1, 2, 3, 4, 5], [0, 1, 2, 3, 4, 5, 6], [0, 1, 2, 3, 4, 5, 6, 7], [0, 1, 2, 3, 4, 5, 6, 7, 8], [0, 1, 2, 3, 4, 5, 6, 7, 8], [0, 1, 2, 3, 4, 5, 6, 7, 8, 9, 10], [0, 1, 2, 3, 4, 5, 6, 7, 8, 9, 10, 11], [0, 1, 2, 3, 4, 5, 6, 7, 8, 9, 10, 11, 12], [0, 1, 2, 3, 4, 5, 6, 7, 8, 9, 10, 11, 12, 13], [0, 1, 2, 3, 4, 5, 6, 7, 8, 9, 10, 11, 12, 13, 14], [0, 1, 2, 3, 4, 5, 6, 7, 8, 9, 10, 11, 12, 13, 14, 15], [0, 1, 2, 3, 4, 5, 6, 7, 8, 9, 10, 11, 12, 13, 14, 15, 16], [0, 1, 2, 3, 4, 5, 6, 7, 8, 9, 10, 11, 12, 13, 14, 15, 16], [0, 1, 2, 3, 4, 5, 6, 7, 8, 9, 10, 11, 12, 13, 14, 15, 16, 17, 18], [0, 1, 2, 3, 4, 5, 6, 7, 8, 9, 10, 11, 12, 13, 14, 15, 16, 17, 18, 19], [0, 1, 2, 3, 4, 5, 6, 7, 8, 9, 10, 11, 12, 13, 14, 15, 16, 17, 18, 19, 20], [0, 1, 2, 3, 4, 5, 6, 7, 8, 9, 10, 11, 12, 13, 14, 15, 16], [0, 1, 2, 3, 4, 5, 6, 7, 8, 9, 10, 11, 12, 13, 14, 15, 16], [0, 1, 2, 3, 4, 5, 6, 7, 8, 9, 10, 11, 12, 13, 14, 15, 16, 22, 23], [0, 1, 2, 3, 4, 5, 6, 7, 8, 9, 10, 11, 12, 13, 14, 15, 16, 22, 23, 24], [0, 1, 2, 3, 4, 5, 6, 7, 8, 9, 10, 11, 12, 13, 14, 15, 16, 22, 23, 24, 25], [0, 1, 2, 3, 4, 5, 6, 7, 8, 9, 10, 11, 12, 13, 14, 15, 16, 17, 18, 19, 20, 21, 22, 23, 24, 25, 26], [0, 1, 2, 3, 4, 5, 6, 7, 8, 9, 10, 11, 12, 13, 14, 15, 16, 17, 18, 19, 20, 21, 22, 23, 24, 25, 26, 27], [0, 1, 2, 3, 4, 5, 6, 7, 8, 9, 10, 11, 12, 13, 14, 15, 16, 17, 18, 19, 20, 21, 22, 23, 24, 25, 26, 27, 28], [0, 1, 2, 3, 4, 5, 6, 7, 8, 9, 10, 11, 12, 13, 14, 15, 16, 17, 18, 19, 20, 21, 22, 23, 24, 25, 26, 27, 28, 29], [0, 1, 2, 3, 4, 5, 6, 7, 8, 9, 10, 11, 12, 13, 14, 15, 16, 17, 18, 19, 20, 21, 22, 23, 24, 25, 26, 27, 28, 29, 30], [0, 1, 2, 3, 4, 5, 6, 7, 8, 9, 10, 11, 12, 13, 14, 15, 16, 17, 18, 19, 20, 21, 22, 23, 24, 25, 26, 27, 28, 29, 30], [0, 1, 2, 3, 4, 5, 6, 7, 8, 9, 10, 11, 12, 13, 14, 15, 16, 17, 18, 19, 20, 21, 22, 23, 24, 25, 26, 27, 28, 29, 30, 31, 32], [0, 1, 2, 3, 4, 5, 6, 7, 8, 9, 10, 11, 12, 13, 14, 15, 16, 17, 18, 19, 20, 21, 22, 23, 24, 25, 26, 27, 28, 29, 30, 31, 32, 33], [0, 1, 2, 3, 4, 5, 6, 7, 8, 9, 10, 11, 12, 13, 14, 15, 16, 17, 18, 19, 20, 21, 22, 23, 24, 25, 26, 27, 28, 29, 30, 31, 32, 33, 34], [0, 1, 2, 3, 4, 5, 6, 7, 8, 9, 10, 11, 12, 13, 14, 15, 16, 17, 18, 19, 20, 21, 22, 23, 24, 25, 26, 27, 28, 29, 30], [0, 1, 2, 3, 4, 5, 6, 7, 8, 9, 10, 11, 12, 13, 14, 15, 16, 17, 18, 19, 20, 21, 22, 23, 24, 25, 26, 27, 28, 29, 30, 36], [0, 1, 2, 3, 4, 5, 6, 7, 8, 9, 10, 11, 12, 13, 14, 15, 16, 17, 18, 19, 20, 21, 22, 23, 24, 25, 26, 27, 28, 29, 30, 31, 32, 33, 34, 35, 36, 37], [0, 1, 2, 3, 4, 5, 6, 7, 8, 9, 10, 11, 12, 13, 14, 15, 16, 17, 18, 19, 20, 21, 22, 23, 24, 25, 26, 27, 28, 29, 30, 31, 32, 33, 34, 35, 36, 37, 38]] (fun W => TR B g p op sort (m : Int) name num w W ∧ B ≤ W.heap.size) (fun _ => True) ?_
  iterate 13
    apply a_con
    · intro x; go_simp; done
    · intro x W R hW hF hR
      obtain ⟨⟨c0, c1, c2, c3, c4, clt, cbel⟩, hBW⟩ := hW
      clear hF
      unfold addAt
      go_simp
      simp only [addUpon]
      exact hR _ (Below.refl _ _)
    simp only [Act.put, List.setIfInBounds_toArray, List.set_cons_zero, List.set_cons_succ]
  apply a_con
  · intro x; go_simp; done
  · intro x W R hW hF hR
    obtain ⟨⟨c0, c1, c2, c3, c4, clt, cbel⟩, hBW⟩ := hW
    clear hF
    unfold addAt
    go_simp
    simp only [addUpon]
    refine (hfi W).mono ?_
    rintro e w4 ⟨rfl, hb4⟩
    exact ⟨_, rfl, hR _ hb4⟩
  simp only [Act.put, List.setIfInBounds_toArray, List.set_cons_zero, List.set_cons_succ]
  iterate 13
    apply a_con
    · intro x; go_simp; done
    · intro x W R hW hF hR
      obtain ⟨⟨c0, c1, c2, c3, c4, clt, cbel⟩, hBW⟩ := hW
      clear hF
      unfold addAt
      go_simp
      simp only [addUpon]
      exact hR _ (Below.refl _ _)
    simp only [Act.put, List.setIfInBounds_toArray, List.set_cons_zero, List.set_cons_succ]
  apply a_con
  · intro x; go_simp; done
  · intro x W R hW hF hR
    obtain ⟨⟨c0, c1, c2, c3, c4, clt, cbel⟩, hBW⟩ := hW
    clear hF
    unfold addAt
    go_simp
    simp only [addUpon]
    refine (har W).mono ?_
    rintro e w4 ⟨rfl, rfl⟩
    exact ⟨_, rfl, hR _ (Below.refl _ _)⟩
  simp only [Act.put, List.setIfInBounds_toArray, List.set_cons_zero, List.set_cons_succ]
  iterate 12
    apply a_con
    · intro x; go_simp; done
    · intro x W R hW hF hR
      obtain ⟨⟨c0, c1, c2, c3, c4, clt, cbel⟩, hBW⟩ := hW
      clear hF
      unfold addAt
      go_simp
      simp only [addUpon]
      exact hR _ (Below.refl _ _)
    simp only [Act.put, List.setIfInBounds_toArray, List.set_cons_zero, List.set_cons_succ]
  refine a_nil (by kernel_rfl) (by kernel_rfl) (by kernel_rfl) (fun _ _ h hb => ⟨h.1.far hb h.2, Nat.le_trans h.2 hb.size⟩) (fun _ _ _ _ => trivial) (fun _ _ => trivial) (⟨HT0.out.drew, by show B ≤ w.heap.size; omega⟩) ?_
  intro x W hE hW hF hD
  clear hD
  replace hW := hW rfl
  obtain ⟨hTW, hBW⟩ := hW
  have HT := Lib.hid hTW
  clear hTW hF hfi har g1 g2 g3 hTR
  have hpI : (p : Int) < (n : Int) := by omega
  go_wp2
  clear g1n g3n
  go_loopw [8, 9, 10, 11] (fun v e gd i wr => ∃ (k q : Nat) (rest : List Nd) (Er : List Nat) (Sr : List Int), k ≤ m ∧ e = .int .i64 q ∧ gd = .bool true ∧ i = .int .i64 k ∧ wr.ownsRow B 3 1 v k (intsI (ss.take k)) ∧ WE q d rest (ss.drop k) Er Sr ∧ Agr ndZ 0 T q rest ∧ q + rest.length = p + 1 + ks.length ∧ TR B g p op sort (m : Int) name num w wr ∧ B ≤ wr.heap.size) (fun _ _ _ i _ => m - (intOf i).toNat)
  case atStart => exact ⟨0, p + 1, ks, Ek, Sk, Nat.zero_le _, rfl, rfl, rfl, World.ownsRow_nil _ _ _ _, HW.out, HA.out, rfl, HT.out, hBW⟩
  case round =>
    clear hBW
    obtain ⟨k, q, rest, Er, Sr, hk, rfl, rfl, rfl, hown, hwe, hag, hlen, htr, hBW⟩ := hrel
    have HO := Lib.hid hown
    have HR := Lib.hid htr
    have c4 := htr.c4
    have hgl := htr.lt
    by_cases hlt : k < m
    · have hkl : k < ss.length := by rw [HM.out]; exact hlt
      have hltI : (k : Int) < (m : Int) := by omega
      obtain ⟨sv, hsv⟩ : ∃ sv, ss[k] = sv := ⟨_, rfl⟩
      have hdr : ss.drop k = sv :: ss.drop (k + 1) := by rw [List.drop_eq_getElem_cons hkl, hsv]
      rw [hdr] at hwe
      obtain ⟨d', x', ks', ss', rest', Ek', Sk', Er', Sr', rfl, rfl, hwk, hno, hwr⟩ := hwe.step
      rw [← List.cons_append] at hag
      have hl2 : q + 1 + ks'.length + rest'.length = p + 1 + ks.length := by simp only [List.length_cons, List.length_append] at hlen; omega
      have hcall := HI.out d' (Nat.lt_succ_self d') T g cap q x' ks' ss' sv Ek' Sk' (dep + 1) wr hwk hno hag.left (by have := HLE.out; omega) HSZ.out (by have := HD.out; omega) (by rw [HNN.out]; exact hT) (HN.out.below htr.bel (by omega)) hgl
      rw [HNN.out, show ((dep + 1 : Nat) : Int) = (dep : Int) + 1 by omega] at hcall
      have hs1 : 1 ≤ sv := (HSO.out sv (hsv ▸ List.getElem_mem hkl)).1
      have hspos : (0 : Int) < sv := by omega
      have HWR := Lib.hid hwr
      have HAG : Hid (Agr ndZ 0 T (q + 1 + ks'.length) rest') := Lib.hid (by have := hag.right; rw [List.length_cons] at this; rw [show q + 1 + ks'.length = q + (ks'.length + 1) by omega]; exact this)
      have HL2 := Lib.hid hl2
      have htk : intsI (ss.take (k + 1)) = intsI (ss.take k) ++ [.int .i64 sv] := by
        rw [List.take_succ_eq_append_getElem hkl, hsv]; simp [intsI]
      have HTK := Lib.hid htk
      generalize hq' : q + 1 + ks'.length = q' at *
      have hq0 : (0 : Int) ≤ (q' : Int) := by omega
      clear hown hwe hag hlen htr hdr hwk hno hwr hs1 hl2 htk hq' hsv
      go_wp2_with fail
      refine hcall.mono ?_
      rintro e w2 ⟨rfl, hb2⟩
      have HR2 := Lib.hid (HR.out.far hb2 hBW)
      have HO2 := Lib.hid (own_below HO.out hb2 (Nat.le_refl _))
      have hBW2 := Nat.le_trans hBW hb2.size
      have hgl2 := HR2.out.lt
      clear hcall hb2 c4 hgl
      go_wp2_with (at_builtin; refine wpList_append_own _ rfl (.tmp 80) (.tmp 82) 23 rfl B 3 i0 (.int .i64 0) 1 8 Tryz.underlying23 hi hz0 hz1 hz2 rfl (by decide) _ k _ rfl (HO2.out.alloc _) ⟨w2.heap.size, 0, none⟩ 1 1 [.int .i64 sv] rfl rfl (World.news_of_block (cs := #[.int .i64 sv]) (t := 3) (fr := (0, 0)) (heap_alloc_new w2 _)) (by simp [Value.oneCell']) (by unfold maxLen; omega) (by omega) (by simp; omega) ?_)
      intro v' w3 hown' hgrow _
      have HR3 := Lib.hid ((HR2.out.far (alloc_far' w2 _) hBW2).grow hgrow (fun k e => (HO2.out.lt k e).1) (by omega) (by simp; omega))
      have hBW3 : B ≤ w3.heap.size := Nat.le_trans hBW2 (Nat.le_trans (by simp) hgrow.size)
      have HO3 : Hid (w3.ownsRow B 3 1 v' (k + 1) (intsI (ss.take (k + 1)))) := Lib.hid (by rw [HTK.out]; exact hown')
      clear hown' hgrow
      go_wp2
      go_roundw
      case rel => exact ⟨k + 1, q', rest', Er', Sr', by omega, rfl, rfl, by go_num, HO3.out, HWR.out, HAG.out, HL2.out, HR3.out, hBW3⟩
      case measure => simp [intOf]; omega
    · obtain rfl : k = m := by omega
      have hdr : ss.drop k = [] := List.drop_of_length_le (by rw [HM.out]; exact Nat.le_refl _)
      rw [hdr] at hwe
      obtain rfl : rest = [] := by cases hwe; rfl
      have hqe : q = p + 1 + ks.length := by simpa using hlen
      have htk : ss.take k = ss := List.take_of_length_le (by rw [HM.out]; exact Nat.le_refl _)
      rw [htk] at hown
      have hown2 : wr.ownsRow B 3 1 u8 ss.length (intsI ss) := by rw [HM.out]; exact hown
      obtain ⟨ao, gg, cc, rfl, hrow⟩ := row_int hown2 (by omega) (by rw [HM.out]; omega)
      rw [HM.out]
      have hres := result_any ⟨op, sort, name, num, (k : Int)⟩ first ao gg cc ss wr hrow HOP.out (by rw [HM.out]; exact HRA.out)
      unfold Nd.val at hres
      simp only at hres
      rw [HM.out, HRR.out] at hres
      have HQ := Lib.hid hqe
      have c0 := htr.c0
      have c1 := htr.c1
      have c2 := htr.c2
      have c3 := htr.c3
      have hbel := Lib.hid htr.bel
      have hop1 : k ≠ 0 → ∃ o1, first = o1 ∧ p + 1 < n ∧ wr.cell? ⟨g, (p + 1) * 5, none⟩ = some (.int .i64 o1) := fun h => by
        have hne : ss ≠ [] := fun e => h (by rw [← HM.out, e]; rfl)
        have hl := HW.out.lens
        have hk2 := HM.out
        cases hks : ks with
        | nil => rw [hks] at hl; simp only [List.length_nil] at hl; omega
        | cons y ys =>
          have hy := HA.out
          rw [hks] at hy
          have hle2 := HLE.out
          rw [hks, List.length_cons] at hle2
          have hg1 := agr_get hy (by omega)
          refine ⟨y.op, ?_, by rw [← HNN.out]; omega, ?_⟩
          · rw [HFI.out, if_neg hne, hks]; rfl
          · exact (HN.out.below htr.bel (by omega)) (p + 1) y hg1 0 (by decide)
      have h0f : k = 0 → first = 0 := fun h => by rw [HFI.out, if_pos (List.length_eq_zero_iff.1 (by rw [HM.out]; exact h))]
      clear hown hwe hag hlen hdr htk hown2 htr hrow hqe HO HR
      by_cases hk0 : k = 0
      · subst hk0
        have hf0 := h0f rfl
        subst hf0
        clear hop1 h0f
        go_wp2_with fail
        refine hres.mono ?_
        rintro e w2 ⟨rfl, hb2⟩
        have HB2 := Lib.hid (hbel.out.trans (hb2.mono hBW))
        clear hb2
        go_wp2
        go_ret2
        exact ⟨by rw [← HQ.out]; rfl, by rw [HBe.out]; exact HB2.out⟩
      · obtain ⟨o1, rfl, hpn, c10⟩ := hop1 hk0
        have hk0I : (0 : Int) < (k : Int) := by omega
        have hpnI : (p : Int) + 1 < (n : Int) := by omega
        clear h0f
        go_wp2_with fail
        refine hres.mono ?_
        rintro e w2 ⟨rfl, hb2⟩
        have HB2 := Lib.hid (hbel.out.trans (hb2.mono hBW))
        clear hb2
        go_wp2
        go_ret2
        exact ⟨by rw [← HQ.out]; rfl, by rw [HBe.out]; exact HB2.out⟩

end
end Go.Proofs.YthefknoicelhaaaGreatDoor.Se

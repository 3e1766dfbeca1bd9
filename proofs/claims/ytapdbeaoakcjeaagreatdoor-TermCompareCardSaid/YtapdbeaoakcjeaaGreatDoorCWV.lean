/- The law's with: a drawn term, some of it under a function. -/
import Derived.Test.YtapdbeaoakcjeaaGreatDoorCWS
namespace Go.Proofs.YtapdbeaoakcjeaaGreatDoor.Se
open Go.RowKit Nmx

theorem new_farT {w w' : World} {o : Obj} (h : (w.alloc o).grownBy w' (some w.heap.size)) : Below w.heap.size w w' :=
  ((Below.refl w.heap.size w).alloc (Nat.le_refl _) o).grown h (by simp) (fun k hk => by cases hk; exact Nat.le_refl _)
theorem ch_newT {w : World} {ao : Option Addr} {len cap : Nat} (h : ArgI w ao len cap) : Ch w.heap.size ao (min len 400) cap (w.alloc (.cells #[.slice ao (min len 400) cap, .int .i64 0] 95)) := by
  refine ⟨⟨0, Nat.zero_le _, heap_alloc_new w _⟩, by omega, fun hn => ?_⟩;obtain ⟨b, off, e, hb, hx⟩ := h.rd (by have := h.le; omega);refine ⟨b, off, e, hb, fun t ht => ?_⟩;obtain ⟨x, hx⟩ := hx t (by omega);exact ⟨x, (World.cell?_alloc_past _ _ _ hb).trans hx⟩
/-- a term that with hands back -/
def Wth (ts : List Nd) : Prop := ∃ (t0 : List Nd) (s : Int), Tm vs8 7 418 t0 s ∧ (ts = t0 ∨ (s = 2 ∧ ts = ⟨5, 2, ⟨#[102]⟩, ⟨#[]⟩, 1⟩ :: t0) ∨ (s = 1 ∧ ∃ q : Rat, DS 26 q ∧ ts = ⟨5, 1, ⟨#[103]⟩, ⟨#[]⟩, 2⟩ :: (t0 ++ [ndNum 3 q])) ∨ (s = 4 ∧ ts = ⟨5, 4, ⟨#[104]⟩, ⟨#[]⟩, 1⟩ :: t0))
def WPost (w : World) (e : Ending) (w' : World) : Prop := ∃ g c ts, e = .returned (.slice (some ⟨g, 0, none⟩) ts.length c) ∧ NodesAt w' g ts ∧ g < w'.heap.size ∧ Wth ts ∧ Below w.heap.size w w'
section
set_option maxHeartbeats 8000000
set_option maxRecDepth 100000
theorem with_any (al : Option Addr) (ll cl : Nat) (w : World) (h : ArgI w al ll cl) : Calls Tryz.prog 8 #[.slice al ll cl] w (WPost w) := by
  have hch0 := ch_newT h;have hn := new_any al ll cl w h;have hCw : w.heap.size = w.heap.size := rfl
  go_enter Tryz.func8, Tryz.ntmps8
  go_wp2_with fail
  refine hn.mono ?_;rintro e w1 ⟨rfl, rfl⟩;generalize hC : w.heap.size = C at *;have HC := Lib.hid hC;obtain ⟨nn, hnn⟩ : ∃ nn, min ll 400 = nn := ⟨_, rfl⟩
  rw [hnn] at hch0 ⊢;clear hCw;have HB0 : Hid (∀ w', (w.alloc (.cells #[.slice al (min ll 400) cl, .int .i64 0] 95)).grownBy w' (some C) → Below w.heap.size w w') := Lib.hid fun w' hg => by rw [← hC] at hg; exact new_farT hg
  rw [hnn] at HB0;generalize w.alloc (.cells #[.slice al nn cl, .int .i64 0] 95) = w1 at *;clear hn h
  go_wp2_with fail
  refine (next_any C al nn cl w1 4 (by omega) (by omega) hch0).mono ?_;rintro e w2 ⟨r, hr, rfl, hch2, hg2, -⟩;obtain ⟨y, hy⟩ : ∃ y : Int, 1 + (r : Int) = y := ⟨_, rfl⟩
  have hy1 : 1 ≤ y := by omega
  have hy4 : y ≤ 4 := by omega
  go_wp2_with fail
  refine (vars_any w2).mono ?_;rintro e w3 ⟨rfl, hv3, hl3, hb3⟩;have hgx : GX C al nn cl w2.heap.size w3 w3 := GX.start (hch2.call hb3) hv3 hl3 (by have := hch2.lt; omega);have HG3 := Lib.hid (grown_call hg2 hb3);clear hv3 hb3 hg2 hch0 hch2 hr
  go_wp2_with fail
  refine ((term_3 C al nn cl w2.heap.size 8).1 y w3 hy1 hy4 hgx).mono ?_;rintro e w4 ⟨g, c, ts, rfl, k1, k2, k3, kt, kc, kg⟩;have HG4 := Lib.hid (grown_trans HG3.out kg);have hCg : C < g := Nat.lt_of_lt_of_le hgx.ch.lt k3;obtain ⟨l, hl⟩ : ∃ l, ts.length = l := ⟨_, rfl⟩
  rw [hl];have HL := Lib.hid hl;clear hgx HG3 k3 hy hl hl3
  go_wp2_with fail
  refine (next_any C al nn cl w4 4 (by omega) (by omega) kc).mono ?_;rintro e w5 ⟨r2, hr2, rfl, hc5, hg5, -⟩;have n5 := k1.grown hg5 k2 (by omega);have l5 := Nat.lt_of_lt_of_le k2 hg5.size;have HG5 := Lib.hid (grown_trans HG4.out hg5);have HT := Lib.hid kt;have hso := refSortOf_wt vs8 7 ts y g c w5 kt.wt (by decide) (Nat.le_trans kt.le (by decide)) kt.nm (fun z hz => Nat.le_trans (kt.sh z hz) (by decide)) n5 l5;rw [HL.out] at hso;have HN5 := Lib.hid n5;clear k1 k2 kt kc kg hg5 n5 HG4;have hr4 : r2 = 0 ∨ r2 = 1 ∨ r2 = 2 ∨ r2 = 3 := by omega
  clear hr2;rcases hr4 with rfl | rfl | rfl | rfl
  · go_wp2_with fail
    refine hso.mono ?_;rintro e w6 ⟨rfl, hb6⟩;have HN6 := Lib.hid (HN5.out.below hb6 l5);have l6 := Nat.lt_of_lt_of_le l5 hb6.size;have HG6 := Lib.hid (grown_call HG5.out hb6);have hc6 := hc5.call hb6;clear hb6 hc5 HG5 HN5 l5
    by_cases hys : y = 2
    · subst hys;have hA := alloc_far' w6 (.cells #[.slice (some ⟨g, 0, none⟩) l c] 22);have hk := kds1 (t1 := ts) (heap_alloc_new w6 (.cells #[.slice (some ⟨g, 0, none⟩) ts.length c] 22));rw [HL.out] at hk;replace hk := hk (HN6.out.below hA l6) (Nat.lt_of_lt_of_le l6 hA.size);have hj := join_any ⟨5, 2, ⟨#[102]⟩, ⟨#[]⟩, 0⟩ (some ⟨w6.heap.size, 0, none⟩) w6.heap.size 1 [ts] _ hk (by have := HT.out.le; simp; omega) (by simp);unfold Nd.val at hj;simp only at hj;have HG7 := Lib.hid (grown_call HG6.out hA);clear hA hk
      go_wp2_with fail
      refine hj.mono ?_;rintro e w8 ⟨g8, c8, rfl, m1, m2, m3, m4⟩;have HG8 := Lib.hid (grown_call HG7.out m4);have hfl : [ts].flatten = ts := by simp
      rw [hfl] at m1 ⊢;have HM := Lib.hid m1;rw [HL.out];clear m1 m4 hj HG7
      go_wp2
      go_ret
      exact ⟨g8, c8, _, by rw [List.length_cons, HL.out, Nat.add_comm]; rfl, HM.out, m2, ⟨ts, 2, HT.out, .inr (.inl ⟨rfl, rfl⟩)⟩, HB0.out w8 HG8.out⟩
    · have hyf : (y == 2) = false := by simp [hys]
      go_wp2
      go_ret
      exact ⟨g, c, ts, by rw [HL.out]; rfl, HN6.out, l6, ⟨ts, y, HT.out, .inl rfl⟩, HB0.out w6 HG6.out⟩
  · go_wp2_with fail
    refine hso.mono ?_;rintro e w6 ⟨rfl, hb6⟩;have HN6 := Lib.hid (HN5.out.below hb6 l5);have l6 := Nat.lt_of_lt_of_le l5 hb6.size;have HG6 := Lib.hid (grown_call HG5.out hb6);have hc6 := hc5.call hb6;clear hb6 hc5 HG5 HN5 l5
    by_cases hys : y = 1
    · subst hys
      go_wp2_with fail
      refine (number_any C al nn cl w6 hc6).mono ?_;rintro e w7 ⟨q, hq, rfl, hc7, hg7⟩;have HN7 := Lib.hid (HN6.out.grown hg7 l6 (by omega));have l7 := Nat.lt_of_lt_of_le l6 hg7.size;have HG7 := Lib.hid (grown_trans HG6.out hg7);have HQ := Lib.hid hq;clear hc6 hc7 hg7 HN6 l6 HG6 hq;obtain ⟨tq, htq⟩ : ∃ tq, TX q = tq := ⟨_, rfl⟩
      rw [htq];have HTQ := Lib.hid htq;clear htq
      go_wp2_with fail
      refine (num1_any 3 tq w7).mono ?_;rintro e w9 ⟨g9, rfl, p1, p2, p3, p4⟩;have HN9 := Lib.hid (HN7.out.below p4 l7);have l9 := Nat.lt_of_lt_of_le l7 p4.size;have HG9 := Lib.hid (grown_call HG7.out p4);have hA := alloc_far' w9 (.cells #[.slice (some ⟨g, 0, none⟩) l c, .slice (some ⟨g9, 0, none⟩) 1 1] 22);have hk := kds2 (t1 := ts) (t2 := [⟨3, 3, ⟨#[]⟩, tq, 0⟩]) (heap_alloc_new w9 (.cells #[.slice (some ⟨g, 0, none⟩) ts.length c, .slice (some ⟨g9, 0, none⟩) 1 1] 22));rw [HL.out] at hk;replace hk := hk (HN9.out.below hA l9) (Nat.lt_of_lt_of_le l9 hA.size) (p1.below hA p2) (Nat.lt_of_lt_of_le p2 hA.size);have hj := join_any ⟨5, 1, ⟨#[103]⟩, ⟨#[]⟩, 0⟩ (some ⟨w9.heap.size, 0, none⟩) w9.heap.size 2 [ts, [⟨3, 3, ⟨#[]⟩, tq, 0⟩]] _ hk (by have := HT.out.le; simp; omega) (by simp);unfold Nd.val at hj;simp only at hj;have HG10 := Lib.hid (grown_call HG9.out hA);clear hA hk p1 p2 p3 p4 HN9 HN7
      go_wp2_with fail
      refine hj.mono ?_;rintro e w8 ⟨g8, c8, rfl, m1, m2, m3, m4⟩;have HG8 := Lib.hid (grown_call HG10.out m4);have hfl : [ts, [(⟨3, 3, ⟨#[]⟩, tq, 0⟩ : Nd)]].flatten = ts ++ [⟨3, 3, ⟨#[]⟩, tq, 0⟩] := by simp
      rw [hfl] at m1 ⊢;have HM := Lib.hid m1;rw [List.length_append, HL.out];clear m1 m4 hj HG10
      go_wp2
      go_ret
      exact ⟨g8, c8, _, by rw [List.length_cons, List.length_append, HL.out, Nat.add_comm]; rfl, HM.out, m2, ⟨ts, 1, HT.out, .inr (.inr (.inl ⟨rfl, q, HQ.out, by unfold ndNum; rw [HTQ.out]; rfl⟩))⟩, HB0.out w8 HG8.out⟩
    · have hyf : (y == 1) = false := by simp [hys]
      go_wp2
      go_ret
      exact ⟨g, c, ts, by rw [HL.out]; rfl, HN6.out, l6, ⟨ts, y, HT.out, .inl rfl⟩, HB0.out w6 HG6.out⟩
  · go_wp2_with fail
    refine hso.mono ?_;rintro e w6 ⟨rfl, hb6⟩;have HN6 := Lib.hid (HN5.out.below hb6 l5);have l6 := Nat.lt_of_lt_of_le l5 hb6.size;have HG6 := Lib.hid (grown_call HG5.out hb6);have hc6 := hc5.call hb6;clear hb6 hc5 HG5 HN5 l5
    by_cases hys : y = 4
    · subst hys;have hA := alloc_far' w6 (.cells #[.slice (some ⟨g, 0, none⟩) l c] 22);have hk := kds1 (t1 := ts) (heap_alloc_new w6 (.cells #[.slice (some ⟨g, 0, none⟩) ts.length c] 22));rw [HL.out] at hk;replace hk := hk (HN6.out.below hA l6) (Nat.lt_of_lt_of_le l6 hA.size);have hj := join_any ⟨5, 4, ⟨#[104]⟩, ⟨#[]⟩, 0⟩ (some ⟨w6.heap.size, 0, none⟩) w6.heap.size 1 [ts] _ hk (by have := HT.out.le; simp; omega) (by simp);unfold Nd.val at hj;simp only at hj;have HG7 := Lib.hid (grown_call HG6.out hA);clear hA hk
      go_wp2_with fail
      refine hj.mono ?_;rintro e w8 ⟨g8, c8, rfl, m1, m2, m3, m4⟩;have HG8 := Lib.hid (grown_call HG7.out m4);have hfl : [ts].flatten = ts := by simp
      rw [hfl] at m1 ⊢;have HM := Lib.hid m1;rw [HL.out];clear m1 m4 hj HG7
      go_wp2
      go_ret
      exact ⟨g8, c8, _, by rw [List.length_cons, HL.out, Nat.add_comm]; rfl, HM.out, m2, ⟨ts, 4, HT.out, .inr (.inr (.inr ⟨rfl, rfl⟩))⟩, HB0.out w8 HG8.out⟩
    · have hyf : (y == 4) = false := by simp [hys]
      go_wp2
      go_ret
      exact ⟨g, c, ts, by rw [HL.out]; rfl, HN6.out, l6, ⟨ts, y, HT.out, .inl rfl⟩, HB0.out w6 HG6.out⟩
  · clear hso
    go_wp2
    go_ret
    exact ⟨g, c, ts, by rw [HL.out]; rfl, HN5.out, l5, ⟨ts, y, HT.out, .inl rfl⟩, HB0.out w5 HG5.out⟩
end
end Go.Proofs.YtapdbeaoakcjeaaGreatDoor.Se
/- The reference's cmp and cmpText. -/
namespace Go.Proofs.YtapdbeaoakcjeaaGreatDoor.Se
open Go.RowKit Nmx

def cmpI (a b : Int) : Int := if a < b then -1 else if b < a then 1 else 0
def cmpS (a b : ByteArray) : Int := if Op.bytesLess a.toList b.toList then -1 else if a.toList == b.toList then 0 else 1
/-- the first of them that is not 0 -/
def firstN : List Int → Int
  | [] => 0
  | c :: l => if c = 0 then firstN l else c
def ndCmp (x y : Nd) : Int := firstN [cmpI x.op y.op, cmpI x.sort y.sort, cmpS x.name y.name, cmpS x.num y.num, cmpI x.kids y.kids]
/-- the order of lists of nodes -/
def tsCmp : List Nd → List Nd → Int
  | [], [] => 0
  | [], _ :: _ => -1
  | _ :: _, [] => 1
  | x :: a, y :: b => if ndCmp x y = 0 then tsCmp a b else ndCmp x y
section
set_option maxHeartbeats 8000000
set_option maxRecDepth 100000
theorem cmpA_any (a b : Int) (w : World) : Calls Tryz.prog 35 #[.int .i64 a, .int .i64 b] w fun e w' => e = .returned (.int .i64 (cmpI a b)) ∧ w' = w := by
  by_cases h1 : a < b
  · have HN : Hid (cmpI a b = -1) := Lib.hid (by unfold cmpI; rw [if_pos h1])
    go_enter Tryz.func35, Tryz.ntmps35
    go_wp2
    go_ret
    exact ⟨by rw [HN.out]; rfl, rfl⟩
  · by_cases h2 : b < a
    · have HN : Hid (cmpI a b = 1) := Lib.hid (by unfold cmpI; rw [if_neg h1, if_pos h2])
      go_enter Tryz.func35, Tryz.ntmps35
      go_wp2
      go_ret
      exact ⟨by rw [HN.out]; rfl, rfl⟩
    · have HN : Hid (cmpI a b = 0) := Lib.hid (by unfold cmpI; rw [if_neg h1, if_neg h2])
      go_enter Tryz.func35, Tryz.ntmps35
      go_wp2
      go_ret
      exact ⟨by rw [HN.out]; rfl, rfl⟩
theorem cmpText_any (a b : ByteArray) (w : World) : Calls Tryz.prog 36 #[.string a, .string b] w fun e w' => e = .returned (.int .i64 (cmpS a b)) ∧ w' = w := by
  cases h1 : Op.bytesLess a.toList b.toList
  · cases h2 : (a.toList == b.toList)
    · have HN : Hid (cmpS a b = 1) := Lib.hid (by unfold cmpS; rw [h1, h2]; rfl)
      go_enter Tryz.func36, Tryz.ntmps36
      go_wp2
      go_ret
      exact ⟨by rw [HN.out]; rfl, rfl⟩
    · have HN : Hid (cmpS a b = 0) := Lib.hid (by unfold cmpS; rw [h1, h2]; rfl)
      go_enter Tryz.func36, Tryz.ntmps36
      go_wp2
      go_ret
      exact ⟨by rw [HN.out]; rfl, rfl⟩
  · have HN : Hid (cmpS a b = -1) := Lib.hid (by unfold cmpS; rw [h1]; rfl)
    go_enter Tryz.func36, Tryz.ntmps36
    go_wp2
    go_ret
    exact ⟨by rw [HN.out]; rfl, rfl⟩
end
end Go.Proofs.YtapdbeaoakcjeaaGreatDoor.Se
/- The reference's Compare: the copies of two nodes. -/
namespace Go.Proofs.YtapdbeaoakcjeaaGreatDoor.Se
open Go.RowKit Nmx

/-- a list of nodes that may lie anywhere in its block -/
def NodesO (w : World) (ao : Option Addr) (ts : List Nd) : Prop := ts.length ≠ 0 → ∃ g off, ao = some ⟨g, off, none⟩ ∧ g < w.heap.size ∧ ∀ i x, ts[i]? = some x → ∀ j, j < 5 → w.cell? ⟨g, off + i * 5 + j, none⟩ = x.cells[j]?
theorem NodesO.below {w w' : World} {B : Nat} {ao : Option Addr} {ts : List Nd} (h : NodesO w ao ts) (hb : Below B w w') (hB : w.heap.size ≤ B) : NodesO w' ao ts := fun hn =>
  let ⟨g, off, e, hl, hc⟩ := h hn; ⟨g, off, e, Nat.lt_of_lt_of_le hl hb.size, fun i x hx j hj => (hb.cell (p := ⟨g, off + i * 5 + j, none⟩) (by show g < B; omega)).trans (hc i x hx j hj)⟩
theorem NodesAt.o {w : World} {g : Nat} {ts : List Nd} (h : NodesAt w g ts) (hg : g < w.heap.size) : NodesO w (some ⟨g, 0, none⟩) ts := fun _ => ⟨g, 0, rfl, hg, fun i x hx j hj => by rw [Nat.zero_add]; exact h i x hx j hj⟩
/-- two nodes, each in its list -/
structure CN (S g1 o1 g2 o2 : Nat) (op1 sort1 kids1 op2 sort2 kids2 : Int) (name1 num1 name2 num2 : ByteArray) (w W : World) : Prop where
  a0 : W.cell? ⟨g1, o1, none⟩ = some (.int .i64 op1)
  a1 : W.cell? ⟨g1, o1 + 1, none⟩ = some (.int .i64 sort1)
  a2 : W.cell? ⟨g1, o1 + 2, none⟩ = some (.string name1)
  a3 : W.cell? ⟨g1, o1 + 3, none⟩ = some (.string num1)
  a4 : W.cell? ⟨g1, o1 + 4, none⟩ = some (.int .i64 kids1)
  b0 : W.cell? ⟨g2, o2, none⟩ = some (.int .i64 op2)
  b1 : W.cell? ⟨g2, o2 + 1, none⟩ = some (.int .i64 sort2)
  b2 : W.cell? ⟨g2, o2 + 2, none⟩ = some (.string name2)
  b3 : W.cell? ⟨g2, o2 + 3, none⟩ = some (.string num2)
  b4 : W.cell? ⟨g2, o2 + 4, none⟩ = some (.int .i64 kids2)
  l1 : g1 < S
  l2 : g2 < S
  ls : S ≤ W.heap.size
  bel : Below S w W
theorem CN.keep {S g1 o1 g2 o2 : Nat} {op1 sort1 kids1 op2 sort2 kids2 : Int} {name1 num1 name2 num2 : ByteArray} {w W W' : World} (h : CN S g1 o1 g2 o2 op1 sort1 kids1 op2 sort2 kids2 name1 num1 name2 num2 w W) (hb : Below S W W') : CN S g1 o1 g2 o2 op1 sort1 kids1 op2 sort2 kids2 name1 num1 name2 num2 w W' :=
  ⟨(hb.cell (p := ⟨g1, o1, none⟩) h.l1).trans h.a0, (hb.cell (p := ⟨g1, o1 + 1, none⟩) h.l1).trans h.a1, (hb.cell (p := ⟨g1, o1 + 2, none⟩) h.l1).trans h.a2, (hb.cell (p := ⟨g1, o1 + 3, none⟩) h.l1).trans h.a3, (hb.cell (p := ⟨g1, o1 + 4, none⟩) h.l1).trans h.a4,
   (hb.cell (p := ⟨g2, o2, none⟩) h.l2).trans h.b0, (hb.cell (p := ⟨g2, o2 + 1, none⟩) h.l2).trans h.b1, (hb.cell (p := ⟨g2, o2 + 2, none⟩) h.l2).trans h.b2, (hb.cell (p := ⟨g2, o2 + 3, none⟩) h.l2).trans h.b3, (hb.cell (p := ⟨g2, o2 + 4, none⟩) h.l2).trans h.b4, h.l1, h.l2, Nat.le_trans h.ls hb.size, h.bel.trans hb⟩
theorem below_set5 {S B : Nat} {w W : World} (h : Below S w W) (hB : S ≤ B) (v0 v1 v2 v3 v4 : Value) : Below S w (((((W.setCell ⟨B, 0, none⟩ v0).setCell ⟨B, 1, none⟩ v1).setCell ⟨B, 2, none⟩ v2).setCell ⟨B, 3, none⟩ v3).setCell ⟨B, 4, none⟩ v4) :=
  ((((h.setCell (p := ⟨B, 0, none⟩) hB _).setCell (p := ⟨B, 1, none⟩) hB _).setCell (p := ⟨B, 2, none⟩) hB _).setCell (p := ⟨B, 3, none⟩) hB _).setCell (p := ⟨B, 4, none⟩) hB _
theorem other_set5 {B B' : Nat} {W : World} {ob : Obj} (h : W.heap[B']? = some ob) (hB : B' ≠ B) (v0 v1 v2 v3 v4 : Value) : (((((W.setCell ⟨B, 0, none⟩ v0).setCell ⟨B, 1, none⟩ v1).setCell ⟨B, 2, none⟩ v2).setCell ⟨B, 3, none⟩ v3).setCell ⟨B, 4, none⟩ v4).heap[B']? = some ob := by
  rw [Below.heap_setCell _ _ _ _ hB, Below.heap_setCell _ _ _ _ hB, Below.heap_setCell _ _ _ _ hB, Below.heap_setCell _ _ _ _ hB, Below.heap_setCell _ _ _ _ hB]; exact h
theorem same_set5 {B : Nat} {W : World} {u0 u1 u2 u3 u4 : Value} {t : TypeId} {fr : Nat × Nat} (h : W.heap[B]? = some (.cells #[u0, u1, u2, u3, u4] t fr)) (v0 v1 v2 v3 v4 : Value) : (((((W.setCell ⟨B, 0, none⟩ v0).setCell ⟨B, 1, none⟩ v1).setCell ⟨B, 2, none⟩ v2).setCell ⟨B, 3, none⟩ v3).setCell ⟨B, 4, none⟩ v4).heap[B]? = some (.cells #[v0, v1, v2, v3, v4] t fr) :=
  heap_set (heap_set (heap_set (heap_set (heap_set h 0 v0) 1 v1) 2 v2) 3 v3) 4 v4
end Go.Proofs.YtapdbeaoakcjeaaGreatDoor.Se

/- The reference's test that names are used in one way, where there are no functions. -/
import Derived.Test.YthefknoicelhaaaGreatDoorFYQ
namespace Go.Proofs.YthefknoicelhaaaGreatDoor.Se
open Go.RowKit Nmx

theorem uniform_nm (V : List (ByteArray × Int)) (T : List Nd) (g cap : Nat) (w : World) (hN : NodesAt w g T) (hg : g < w.heap.size) (hT : T.length ≤ 20000) (hV : Nm V T) :
    Calls Tryz.prog 34 #[.slice (some ⟨g, 0, none⟩) T.length cap] w fun e w' => e = .returned (.bool true) ∧ Below w.heap.size w w' :=
  uniform_any V T g cap w hN hg hT (fun _ x hx => .inl (hV x (List.mem_of_getElem? hx))) (fun x hx h5 => absurd h5 (hV x (List.mem_of_getElem? hx)).1)
end Go.Proofs.YthefknoicelhaaaGreatDoor.Se
/- The reference's SortOf, ValidTerm, Join, Num1, Bool1. -/
namespace Go.Proofs.YthefknoicelhaaaGreatDoor.Se
open Go.RowKit Nmx

section
set_option maxHeartbeats 8000000
set_option maxRecDepth 100000
theorem refSortOf_un (d : Nat) (T : List Nd) (s : Int) (g cap : Nat) (w : World) (hw : WT d T s) (hd : d ≤ 257) (hl : T.length ≤ 20000) (hsz : ∀ y ∈ T, y.num.size ≤ 1000) (hN : NodesAt w g T) (hg : g < w.heap.size)
    (hu : ∀ w', Below w.heap.size w w' → Calls Tryz.prog 34 #[.slice (some ⟨g, 0, none⟩) T.length cap] w' fun e w'' => e = .returned (.bool true) ∧ Below w'.heap.size w' w'') :
    Calls Tryz.prog 24 #[.slice (some ⟨g, 0, none⟩) T.length cap] w fun e w' => e = .returned (.int .i64 s) ∧ Below w.heap.size w w' := by
  obtain ⟨E, S, hwe⟩ := hw
  have hs1 := (hwe.sorts s (by simp)).1
  have hwe0 := hwe
  obtain ⟨d', x, ks, ss, rest', Ek, Sk, Er, Sr, rfl, rfl, hk, hno, hr⟩ := hwe.step
  obtain rfl : rest' = [] := by cases hr; rfl
  have HU := Lib.hid hu
  clear hu
  rw [List.append_nil] at hl hsz hN HU ⊢
  have hlen : (x :: ks).length = 0 + 1 + ks.length := by rw [List.length_cons]; omega
  have ht := tree_we d' (x :: ks) g cap 0 x ks ss s Ek Sk 0 w hk hno (fun i hi => by simp) (by omega) hsz (by omega) (by omega) hN hg
  rw [← hlen] at ht
  generalize (x :: ks).length = n at *
  have hn0 : ¬ (20000 : Int) < (n : Int) := by omega
  have hs0 : ¬ s = 0 := by omega
  have hse : (s == 0) = false := by simp [hs0]
  clear hwe hwe0 hk hno hr hN hsz hlen
  go_enter Tryz.func24, Tryz.ntmps24
  go_wp2_with fail
  refine ht.mono ?_
  rintro e w1 ⟨rfl, hb1⟩
  have hu := HU.out w1 hb1
  have HB := Lib.hid hb1
  clear ht hb1
  go_wp2_with fail
  refine hu.mono ?_
  rintro e w2 ⟨rfl, hb2⟩
  have HB2 := Lib.hid (HB.out.trans (hb2.mono HB.out.size))
  clear hb2 hu
  go_wp2
  go_ret
  exact ⟨rfl, HB2.out⟩
theorem refSortOf_wt (V : List (ByteArray × Int)) (d : Nat) (T : List Nd) (s : Int) (g cap : Nat) (w : World) (hw : WT d T s) (hd : d ≤ 257) (hl : T.length ≤ 20000) (hV : Nm V T) (hsz : ∀ y ∈ T, y.num.size ≤ 1000) (hN : NodesAt w g T) (hg : g < w.heap.size) :
    Calls Tryz.prog 24 #[.slice (some ⟨g, 0, none⟩) T.length cap] w fun e w' => e = .returned (.int .i64 s) ∧ Below w.heap.size w w' :=
  refSortOf_un d T s g cap w hw hd hl hsz hN hg fun w' hb => uniform_nm V T g cap w' (hN.below hb hg) (Nat.lt_of_lt_of_le hg hb.size) hl hV
theorem refValidTerm_of {T : List Nd} {d : Nat} {s : Int} {g cap : Nat} {w : World} (hw : WT d T s)
    (h : Calls Tryz.prog 24 #[.slice (some ⟨g, 0, none⟩) T.length cap] w fun e w' => e = .returned (.int .i64 s) ∧ Below w.heap.size w w') :
    Calls Tryz.prog 32 #[.slice (some ⟨g, 0, none⟩) T.length cap] w fun e w' => e = .returned (.bool true) ∧ Below w.heap.size w w' := by
  obtain ⟨E, S, hwe⟩ := hw
  have hs1 := (hwe.sorts s (by simp)).1
  have hs0 : (0 : Int) < s := by omega
  clear hwe
  generalize T.length = n at *
  go_enter Tryz.func32, Tryz.ntmps32
  go_wp2_with fail
  refine h.mono ?_
  rintro e w1 ⟨rfl, hb1⟩
  have HB := Lib.hid hb1
  clear h hb1
  go_wp2
  go_ret
  exact ⟨rfl, HB.out⟩
theorem refValidTerm_wt (V : List (ByteArray × Int)) (d : Nat) (T : List Nd) (s : Int) (g cap : Nat) (w : World) (hw : WT d T s) (hd : d ≤ 257) (hl : T.length ≤ 20000) (hV : Nm V T) (hsz : ∀ y ∈ T, y.num.size ≤ 1000) (hN : NodesAt w g T) (hg : g < w.heap.size) :
    Calls Tryz.prog 32 #[.slice (some ⟨g, 0, none⟩) T.length cap] w fun e w' => e = .returned (.bool true) ∧ Below w.heap.size w w' :=
  refValidTerm_of hw (refSortOf_wt V d T s g cap w hw hd hl hV hsz hN hg)
/-- a term of one node, in a block of its own -/
def OnePost (x : Nd) (w : World) (e : Ending) (w' : World) : Prop := ∃ g, e = .returned (.slice (some ⟨g, 0, none⟩) 1 1) ∧ NodesAt w' g [x] ∧ g < w'.heap.size ∧ w.heap.size ≤ g ∧ Below w.heap.size w w'
theorem OnePost.of (x : Nd) (w : World) : OnePost x w (.returned (.slice (some ⟨w.heap.size, 0, none⟩) 1 1)) (w.alloc (.cells #[.int .i64 x.op, .int .i64 x.sort, .string x.name, .string x.num, .int .i64 x.kids] 51)) := by
  refine ⟨_, rfl, ?_, by simp, Nat.le_refl _, alloc_far' w _⟩
  refine flat_nodes fun j hj => ?_
  rw [World.cell?_alloc_at _ _ _ _ rfl]
  obtain ⟨op, sort, name, num, kids⟩ := x
  show (#[Value.int .i64 op, .int .i64 sort, .string name, .string num, .int .i64 kids] : Array Value)[j]? = [Value.int .i64 op, .int .i64 sort, .string name, .string num, .int .i64 kids][j]?
  rw [List.getElem?_toArray]
/-- what Join hands back: as NodePost, the capacity no less than the length -/
def JoinPost (w : World) (x : Nd) (L : List (List Nd)) (e : Ending) (w' : World) : Prop :=
  ∃ g c, e = .returned (.slice (some ⟨g, 0, none⟩) (1 + L.flatten.length) (1 + L.flatten.length + c)) ∧ NodesAt w' g ({ x with kids := L.length } :: L.flatten) ∧ g < w'.heap.size ∧ w.heap.size ≤ g ∧ Below w.heap.size w w'
theorem row_cap {w : World} {b g n cap z : Nat} {t : TypeId} {xs : List Value} (h : w.ownsRow b t z (.slice (some ⟨g, 0, none⟩) n cap) n xs) : n ≤ cap := by
  obtain ⟨_, h | ⟨_, _, _, hv, _, _, hle, _⟩⟩ := h
  · cases h.1
  · injection hv with _ _ e3; omega
theorem join_any (x : Nd) (ak : Option Addr) (gk ck : Nat) (L : List (List Nd)) (w : World) (hk : Kds w ak gk L) (hs : L.flatten.length ≤ 1000000) (hmx : L.length ≤ 1000000) :
    Calls Tryz.prog 23 #[x.val, .slice ak L.length ck] w (JoinPost w x L) := by
  obtain ⟨i0, hi, hz0, hz1, hz2⟩ := info_parts infoNode
  obtain ⟨op, sort, name, num, kids⟩ := x
  have HK := Lib.hid hk
  have hmono : ∀ j, (L.take j).flatten.length ≤ L.flatten.length := fun j => by
    have := congrArg List.length (congrArg List.flatten (List.take_append_drop j L))
    rw [List.flatten_append, List.length_append] at this; omega
  have HMO := Lib.hid hmono
  obtain ⟨j, hm⟩ : ∃ j, L.length = j := ⟨_, rfl⟩
  have HL := Lib.hid hm
  unfold Nd.val
  rw [hm]
  rw [hm] at hmx
  have HN2 : Hid (NDB w.heap.size w ⟨op, sort, name, num, kids⟩ j (w.alloc (.cells #[.int .i64 op, .int .i64 sort, .string name, .string num, .int .i64 j] 51))) := Lib.hid ⟨heap_alloc_new w _, alloc_far' w _⟩
  have HN3 := Lib.hid (HN2.out.far (alloc_far' (w.alloc (.cells #[.int .i64 op, .int .i64 sort, .string name, .string num, .int .i64 j] 51)) (.cells #[.int .i64 op, .int .i64 sort, .string name, .string num, .int .i64 j] 51)))
  have hsz : (w.alloc (.cells #[.int .i64 op, .int .i64 sort, .string name, .string num, .int .i64 j] 51)).heap.size = w.heap.size + 1 := by simp
  have hown := World.ownsRow_lit (base := w.heap.size + 1) (e := 51) (size := 5) (w.alloc (.cells #[.int .i64 op, .int .i64 sort, .string name, .string num, .int .i64 j] 51)) #[.int .i64 op, .int .i64 sort, .string name, .string num, .int .i64 j] 1 (by omega) (by decide) rfl
  rw [hsz] at hown
  have HR3 : Hid (((w.alloc (.cells #[.int .i64 op, .int .i64 sort, .string name, .string num, .int .i64 j] 51)).alloc (.cells #[.int .i64 op, .int .i64 sort, .string name, .string num, .int .i64 j] 51)).ownsRow (w.heap.size + 1) 51 5 (.slice (some ⟨w.heap.size + 1, 0, none⟩) 1 1) 1 (flatN [⟨op, sort, name, num, (j : Int)⟩])) := Lib.hid hown
  have hSS1 : w.heap.size < w.heap.size + 1 := by omega
  clear hk hm hmono hown hsz HN2
  go_enter Tryz.func23, Tryz.ntmps23
  go_wp2
  go_loopw [5, 6] (fun v i wr => ∃ (k B c : Nat), k ≤ j ∧ i = .int .i64 k ∧ v = .slice (some ⟨B, 0, none⟩) (1 + (L.take k).flatten.length) c ∧ w.heap.size < B ∧ NDB w.heap.size w ⟨op, sort, name, num, kids⟩ j wr ∧ wr.ownsRow (w.heap.size + 1) 51 5 v (1 + (L.take k).flatten.length) (flatN (⟨op, sort, name, num, (j : Int)⟩ :: (L.take k).flatten))) (fun _ i _ => j - (intOf i).toNat)
  case atStart => exact ⟨0, _, 1, Nat.zero_le _, rfl, rfl, hSS1, HN3.out, HR3.out⟩
  case round =>
    clear HN3 HR3 hSS1
    obtain ⟨k, B, c, hk, rfl, rfl, hSB, hnd, hrow⟩ := hrel
    generalize hSS : w.heap.size = S at *
    have HS := Lib.hid hSS
    have HN4 := Lib.hid hnd
    have HR4 := Lib.hid hrow
    clear hnd hrow hSS
    have hk0 : (0 : Int) ≤ (k : Int) := by omega
    by_cases hlt2 : k < j
    · have hlt3 : (k : Int) < (j : Int) := by omega
      have hl : k < L.length := by rw [HL.out]; exact hlt2
      obtain rfl := HK.out.1 (by omega)
      have hKK := HK.out.far (show Below w.heap.size w wr by rw [HS.out]; exact HN4.out.bel)
      obtain ⟨g, c1, cc, hN, hgl⟩ := hKK.2.2 k L[k] (List.getElem?_eq_getElem hl)
      have hnx : 1 + (L.take (k + 1)).flatten.length = (1 + (L.take k).flatten.length) + L[k].length := by rw [take_flat hl, List.length_append]; omega
      have hnf : flatN (⟨op, sort, name, num, (j : Int)⟩ :: (L.take (k + 1)).flatten) = flatN (⟨op, sort, name, num, (j : Int)⟩ :: (L.take k).flatten) ++ flatN L[k] := by rw [take_flat hl, ← List.cons_append, flatN_app]
      have hle := HMO.out (k + 1)
      have h1 : 1 + (L.take k).flatten.length + L[k].length ≤ 1000001 := by omega
      have HNF := Lib.hid hnf
      have HNX := Lib.hid hnx
      have HNN := Lib.hid (nodes_flat hN)
      have HFL : Hid ((flatN L[k]).length = L[k].length * 5) := Lib.hid (flatN_len _)
      have HON := Lib.hid (nd_one L[k])
      have hSw := lt_of_heap HN4.out.bx
      have hs1 : 1 ≤ 1 + (L.take k).flatten.length := by omega
      clear hle hnx hnf hN
      generalize flatN (⟨op, sort, name, num, (j : Int)⟩ :: (L.take k).flatten) = fl0 at *
      generalize flatN L[k] = fl1 at *
      generalize 1 + (L.take k).flatten.length = s0 at *
      generalize L[k].length = ln at *
      go_wp2_with (at_builtin; go_loud (refine wpList_append_own _ rfl _ _ 26 rfl (S + 1) 51 i0 _ 5 56 Tryz.underlying26 hi hz0 hz1 hz2 rfl (by decide) (.slice (some ⟨B, 0, none⟩) s0 c) s0 fl0 rfl HR4.out ⟨g, 0, none⟩ ln c1 fl1 rfl HFL.out (fun q u hq => by rw [add_at]; exact HNN.out q u hq) HON.out (by unfold maxLen; omega) (by omega) (by omega) ?_))
      intro v' w4 hrow hg hnil0
      obtain ⟨B', c', hv', hB'⟩ : ∃ B' c', v' = .slice (some ⟨B', 0, none⟩) (s0 + ln) c' ∧ S < B' := by
        obtain ⟨_, h1 | ⟨g, cap, cur, hv, _⟩⟩ := id hrow
        · exact absurd h1.2 (by omega)
        · exact ⟨g, cap, hv, by have := (hrow.lt g (by rw [hv]; rfl)).1; omega⟩
      subst hv'
      have HN5 := Lib.hid (HN4.out.grow hg (fun k e => by have e' : B = k := Option.some.inj e; omega))
      have HR5 := Lib.hid hrow
      clear hrow hg HR4 HN4 cc
      go_wp2_with fail
      go_roundw
      case rel => exact ⟨k + 1, B', c', by omega, by go_num, by rw [HNX.out], hB', HN5.out, by rw [HNX.out, HNF.out]; exact HR5.out⟩
      case measure => simp [intOf]; omega
    · obtain rfl : k = j := by omega
      have hall : (L.take k).flatten = L.flatten := by rw [List.take_of_length_le (by rw [HL.out]; omega)]
      rw [hall] at HR4 ⊢
      have HFIN : Hid (JoinPost w ⟨op, sort, name, num, kids⟩ L (.returned (.slice (some ⟨B, 0, none⟩) (1 + L.flatten.length) c)) wr) := Lib.hid (by
        have hrow := HR4.out
        obtain ⟨c', hc'⟩ : ∃ c', c = 1 + L.flatten.length + c' := ⟨c - (1 + L.flatten.length), by have := row_cap hrow; omega⟩
        refine ⟨B, c', by rw [← hc'], flat_nodes (fun q hq => ?_), (hrow.lt B rfl).2, by rw [HS.out]; omega, by rw [HS.out]; exact HN4.out.bel⟩
        have hq' : q < (1 + L.flatten.length) * 5 := by simp only [List.length_cons] at hq; omega
        rw [hrow.cellAt q hq']
        show (flatN (⟨op, sort, name, num, (k : Int)⟩ :: L.flatten))[q]? = (flatN (⟨op, sort, name, num, (L.length : Int)⟩ :: L.flatten))[q]?
        rw [HL.out])
      clear HR4 HN4
      go_wp2
      go_ret
      exact HFIN.out
end
end Go.Proofs.YthefknoicelhaaaGreatDoor.Se

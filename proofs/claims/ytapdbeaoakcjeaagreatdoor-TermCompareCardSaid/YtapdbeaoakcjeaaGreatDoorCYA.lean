/- Order: cmp.Compare, cmp.Or, comparison of bytes. -/
import Derived.Test.YtapdbeaoakcjeaaGreatDoorCWX
import Derived.Test.YtapdbeaoakcjeaaGreatDoorCShelf
namespace Go.Proofs.YtapdbeaoakcjeaaGreatDoor.Se
open Go.RowKit Nmx

theorem cmpS_bytes : ∀ (a b : List UInt8), Lib.compareBytes a b = if Op.bytesLess a b then -1 else if a == b then 0 else 1 := by
  intro a
  induction a with
  | nil => intro b; cases b <;> rfl
  | cons x a ih =>
    intro b;cases b with
    | nil => rfl
    | cons y b =>
      show (if x < y then (-1 : Int) else if y < x then 1 else Lib.compareBytes a b) = _;have hl : Op.bytesLess (x :: a) (y :: b) = (decide (x < y) || (x == y && Op.bytesLess a b)) := rfl;rw [hl]
      by_cases h1 : x < y
      · rw [if_pos h1]; simp [h1]
      · by_cases h2 : y < x
        · have hne : ¬ x = y := fun e => by subst e; exact h1 h2
          rw [if_neg h1, if_pos h2]; simp [h1, hne]
        · have he : x = y := by
            have h3 := UInt8.not_lt.1 h1;have h4 := UInt8.not_lt.1 h2;exact UInt8.le_antisymm h4 h3
          subst he;rw [if_neg h1, if_neg h2, ih b]
          simp [h1]
section
set_option maxHeartbeats 8000000
set_option maxRecDepth 100000
theorem isNaN_any (a : Int) (w : World) : Calls Tryz.prog 118 #[.int .i64 a] w fun e w' => e = .returned (.bool false) ∧ w' = w := by
  go_enter Tryz.func118, Tryz.ntmps118
  go_wp2
  go_ret
  exact ⟨by simp, rfl⟩
theorem cmpCompare_any (a b : Int) (w : World) : Calls Tryz.prog 70 #[.int .i64 a, .int .i64 b] w fun e w' => e = .returned (.int .i64 (cmpI a b)) ∧ w' = w := by
  by_cases h1 : a < b
  · have HN : Hid (cmpI a b = -1) := Lib.hid (by unfold cmpI; rw [if_pos h1])
    go_enter Tryz.func70, Tryz.ntmps70
    go_wp2_with fail
    refine (isNaN_any a w).mono ?_;rintro e w1 ⟨rfl, rfl⟩
    go_wp2_with fail
    refine (isNaN_any b _).mono ?_;rintro e w2 ⟨rfl, rfl⟩
    go_wp2
    go_ret
    exact ⟨by rw [HN.out]; rfl, rfl⟩
  · by_cases h2 : b < a
    · have HN : Hid (cmpI a b = 1) := Lib.hid (by unfold cmpI; rw [if_neg h1, if_pos h2])
      go_enter Tryz.func70, Tryz.ntmps70
      go_wp2_with fail
      refine (isNaN_any a w).mono ?_;rintro e w1 ⟨rfl, rfl⟩
      go_wp2_with fail
      refine (isNaN_any b _).mono ?_;rintro e w2 ⟨rfl, rfl⟩
      go_wp2
      go_ret
      exact ⟨by rw [HN.out]; rfl, rfl⟩
    · have HN : Hid (cmpI a b = 0) := Lib.hid (by unfold cmpI; rw [if_neg h1, if_neg h2])
      go_enter Tryz.func70, Tryz.ntmps70
      go_wp2_with fail
      refine (isNaN_any a w).mono ?_;rintro e w1 ⟨rfl, rfl⟩
      go_wp2_with fail
      refine (isNaN_any b _).mono ?_;rintro e w2 ⟨rfl, rfl⟩
      go_wp2
      go_ret
      exact ⟨by rw [HN.out]; rfl, rfl⟩
theorem or_any (ao : Option Addr) (g cap : Nat) (l : List Int) (w : World) (hr : RowI w ao g l) :
    Calls Tryz.prog 69 #[.slice ao l.length cap] w fun e w' => e = .returned (.int .i64 (firstN l)) ∧ w' = w := by
  have HR := Lib.hid hr;clear hr
  go_enter Tryz.func69, Tryz.ntmps69
  go_wp2
  go_loop [8] (fun i => ∃ k : Nat, k ≤ l.length ∧ i = .int .i64 k ∧ firstN l = firstN (l.drop k)) (fun i => l.length - (intOf i).toNat)
  case atStart => exact ⟨0, Nat.zero_le _, rfl, rfl⟩
  case round =>
    obtain ⟨k, hk, rfl, ha⟩ := hrel;have HA := Lib.hid ha;have hf := HR.out.few;clear ha
    by_cases hlt : k < l.length
    · have hao := HR.out.at0 (by omega);subst hao;have hc := HR.out.cell k hlt;have hdr : l.drop k = l[k] :: l.drop (k + 1) := List.drop_eq_getElem_cons hlt;generalize l[k] = y at *
      by_cases hz : y = 0
      · subst hz;have HN : Hid (firstN l = firstN (l.drop (k + 1))) := Lib.hid (by rw [HA.out, hdr]; rfl);clear hdr
        go_wp2
        go_round
        case rel => exact ⟨k + 1, by omega, by go_num, HN.out⟩
        case measure => simp [intOf]; omega
      · have HN : Hid (firstN l = y) := Lib.hid (by rw [HA.out, hdr]; show (if y = 0 then _ else y) = y; rw [if_neg hz]);have hzf : (y == 0) = false := by simp [hz]
        clear hdr
        go_wp2
        go_ret
        exact ⟨by rw [HN.out]; rfl, rfl⟩
    · have HN : Hid (firstN l = 0) := Lib.hid (by rw [HA.out, List.drop_of_length_le (by omega)]; rfl)
      go_wp2
      go_ret
      exact ⟨by rw [HN.out]; rfl, rfl⟩
end
end Go.Proofs.YtapdbeaoakcjeaaGreatDoor.Se
/- The program's compareNodes and Compare. -/
namespace Go.Proofs.YtapdbeaoakcjeaaGreatDoor.Se
open Go.RowKit Nmx

theorem strCmpS_any (a b : ByteArray) (w : World) : Calls Tryz.prog 71 #[.string a, .string b] w fun e w' => e = .returned (.int .i64 (cmpS a b)) ∧ w' = w := by
  have h := Tryz.strings_Compare a b w;rw [cmpS_bytes] at h;unfold cmpS;rw [← ByteArray.toList_eq, ← ByteArray.toList_eq] at h;exact h
section
set_option maxHeartbeats 8000000
set_option maxRecDepth 100000
theorem compareNodes_any (x y : Nd) (w : World) : Calls Tryz.prog 34 #[x.val, y.val] w fun e w' => e = .returned (.int .i64 (ndCmp x y)) ∧ Below w.heap.size w w' := by
  obtain ⟨op1, sort1, name1, num1, kids1⟩ := x;obtain ⟨op2, sort2, name2, num2, kids2⟩ := y;unfold Nd.val;have hA := alloc_far' w (.cells #[.int .i64 op1, .int .i64 sort1, .string name1, .string num1, .int .i64 kids1] 34);have hA2 := alloc_far' (w.alloc (.cells #[.int .i64 op1, .int .i64 sort1, .string name1, .string num1, .int .i64 kids1] 34)) (.cells #[.int .i64 op2, .int .i64 sort2, .string name2, .string num2, .int .i64 kids2] 34);have h6 := (hA2.block _ (lt_of_heap (heap_alloc_new w (.cells #[.int .i64 op1, .int .i64 sort1, .string name1, .string num1, .int .i64 kids1] 34)))).trans (heap_alloc_new w (.cells #[.int .i64 op1, .int .i64 sort1, .string name1, .string num1, .int .i64 kids1] 34));have h7 := heap_alloc_new (w.alloc (.cells #[.int .i64 op1, .int .i64 sort1, .string name1, .string num1, .int .i64 kids1] 34)) (.cells #[.int .i64 op2, .int .i64 sort2, .string name2, .string num2, .int .i64 kids2] 34);rw [show (w.alloc (.cells #[.int .i64 op1, .int .i64 sort1, .string name1, .string num1, .int .i64 kids1] 34)).heap.size = w.heap.size + 1 by simp] at h7;have hbel := hA.trans (hA2.mono hA.size);have HK0 := fun W : World => cmpCompare_any op1 op2 W
  have HK1 := fun W : World => cmpCompare_any sort1 sort2 W
  have HK2 := fun W : World => strCmpS_any name1 name2 W
  have HK3 := fun W : World => strCmpS_any num1 num2 W
  have HK4 := fun W : World => cmpCompare_any kids1 kids2 W
  have hnd : ndCmp ⟨op1, sort1, name1, num1, kids1⟩ ⟨op2, sort2, name2, num2, kids2⟩ = firstN [cmpI op1 op2, cmpI sort1 sort2, cmpS name1 name2, cmpS num1 num2, cmpI kids1 kids2] := rfl;generalize cmpI op1 op2 = k0 at *;generalize cmpI sort1 sort2 = k1 at *;generalize cmpS name1 name2 = k2 at *;generalize cmpS num1 num2 = k3 at *;generalize cmpI kids1 kids2 = k4 at *;have HND := Lib.hid hnd;clear hnd hA hA2;generalize hS : w.heap.size = S at *;have HS := Lib.hid hS;have hls : S ≤ ((w.alloc (.cells #[.int .i64 op1, .int .i64 sort1, .string name1, .string num1, .int .i64 kids1] 34)).alloc (.cells #[.int .i64 op2, .int .i64 sort2, .string name2, .string num2, .int .i64 kids2] 34)).heap.size := Nat.le_of_lt (lt_of_heap h6);have HX : Hid (((w.alloc (.cells #[.int .i64 op1, .int .i64 sort1, .string name1, .string num1, .int .i64 kids1] 34)).alloc (.cells #[.int .i64 op2, .int .i64 sort2, .string name2, .string num2, .int .i64 kids2] 34)).heap[S]? = some (.cells #[.int .i64 op1, .int .i64 sort1, .string name1, .string num1, .int .i64 kids1] 34 (0, 0)) ∧ ((w.alloc (.cells #[.int .i64 op1, .int .i64 sort1, .string name1, .string num1, .int .i64 kids1] 34)).alloc (.cells #[.int .i64 op2, .int .i64 sort2, .string name2, .string num2, .int .i64 kids2] 34)).heap[S + 1]? = some (.cells #[.int .i64 op2, .int .i64 sort2, .string name2, .string num2, .int .i64 kids2] 34 (0, 0)) ∧ S ≤ ((w.alloc (.cells #[.int .i64 op1, .int .i64 sort1, .string name1, .string num1, .int .i64 kids1] 34)).alloc (.cells #[.int .i64 op2, .int .i64 sort2, .string name2, .string num2, .int .i64 kids2] 34)).heap.size ∧ Below S w ((w.alloc (.cells #[.int .i64 op1, .int .i64 sort1, .string name1, .string num1, .int .i64 kids1] 34)).alloc (.cells #[.int .i64 op2, .int .i64 sort2, .string name2, .string num2, .int .i64 kids2] 34))) := Lib.hid ⟨h6, h7, hls, hbel⟩
  clear h6 h7 hls hbel
  go_enter Tryz.func34, Tryz.ntmps34
  go_upto_region 1 with fail
  generalize (w.alloc (.cells #[.int .i64 op1, .int .i64 sort1, .string name1, .string num1, .int .i64 kids1] 34)).alloc (.cells #[.int .i64 op2, .int .i64 sort2, .string name2, .string num2, .int .i64 kids2] 34) = w2 at *;refine add_region [[], [0], [], [2], [0, 1, 2, 3], [], [5], [], [7], [0, 1, 2, 3, 4, 5, 6, 7, 8], [], [10], [], [12], [0, 1, 2, 3, 4, 5, 6, 7, 8, 9, 10, 11, 12, 13], [], [15], [], [17], [0, 1, 2, 3, 4, 5, 6, 7, 8, 9, 10, 11, 12, 13, 14, 15, 16, 17, 18], [], [20], [], [22], [0, 1, 2, 3, 4, 5, 6, 7, 8, 9, 10, 11, 12, 13, 14, 15, 16, 17, 18, 19, 20, 21, 22, 23], [0, 1, 2, 3, 4, 5, 6, 7, 8, 9, 10, 11, 12, 13, 14, 15, 16, 17, 18, 19, 20, 21, 22, 23, 24], [0, 1, 2, 3, 4, 5, 6, 7, 8, 9, 10, 11, 12, 13, 14, 15, 16, 17, 18, 19, 20, 21, 22, 23, 24, 25], [0, 1, 2, 3, 4, 5, 6, 7, 8, 9, 10, 11, 12, 13, 14, 15, 16, 17, 18, 19, 20, 21, 22, 23, 24, 25, 26]] (fun W => W.heap[S]? = some (.cells #[.int .i64 op1, .int .i64 sort1, .string name1, .string num1, .int .i64 kids1] 34 (0, 0)) ∧ W.heap[S + 1]? = some (.cells #[.int .i64 op2, .int .i64 sort2, .string name2, .string num2, .int .i64 kids2] 34 (0, 0)) ∧ S ≤ W.heap.size ∧ Below S w W) (fun _ => True) ?_
  iterate 4
    apply a_con
    · intro x; go_simp; done
    · intro x W R hW hF hR;have p0 := heap_cell hW.1 0;have q0 := heap_cell hW.2.1 0;have p1 := heap_cell hW.1 1;have q1 := heap_cell hW.2.1 1;have p2 := heap_cell hW.1 2;have q2 := heap_cell hW.2.1 2;have p3 := heap_cell hW.1 3;have q3 := heap_cell hW.2.1 3;have p4 := heap_cell hW.1 4;have q4 := heap_cell hW.2.1 4;clear hF;unfold addAt
      go_simp
      simp only [addUpon];exact hR _ (Below.refl _ _)
    simp only [Act.put, List.setIfInBounds_toArray, List.set_cons_zero, List.set_cons_succ]
  apply a_con
  · intro x; go_simp; done
  · intro x W R hW hF hR;have p0 := heap_cell hW.1 0;have q0 := heap_cell hW.2.1 0;have p1 := heap_cell hW.1 1;have q1 := heap_cell hW.2.1 1;have p2 := heap_cell hW.1 2;have q2 := heap_cell hW.2.1 2;have p3 := heap_cell hW.1 3;have q3 := heap_cell hW.2.1 3;have p4 := heap_cell hW.1 4;have q4 := heap_cell hW.2.1 4;clear hF;unfold addAt
    go_simp
    simp only [addUpon];refine (HK0 W).mono ?_;rintro e w4 ⟨rfl, rfl⟩;exact ⟨_, rfl, hR _ (Below.refl _ _)⟩
  simp only [Act.put, List.setIfInBounds_toArray, List.set_cons_zero, List.set_cons_succ]
  iterate 4
    apply a_con
    · intro x; go_simp; done
    · intro x W R hW hF hR;have p0 := heap_cell hW.1 0;have q0 := heap_cell hW.2.1 0;have p1 := heap_cell hW.1 1;have q1 := heap_cell hW.2.1 1;have p2 := heap_cell hW.1 2;have q2 := heap_cell hW.2.1 2;have p3 := heap_cell hW.1 3;have q3 := heap_cell hW.2.1 3;have p4 := heap_cell hW.1 4;have q4 := heap_cell hW.2.1 4;clear hF;unfold addAt
      go_simp
      simp only [addUpon];exact hR _ (Below.refl _ _)
    simp only [Act.put, List.setIfInBounds_toArray, List.set_cons_zero, List.set_cons_succ]
  apply a_con
  · intro x; go_simp; done
  · intro x W R hW hF hR;have p0 := heap_cell hW.1 0;have q0 := heap_cell hW.2.1 0;have p1 := heap_cell hW.1 1;have q1 := heap_cell hW.2.1 1;have p2 := heap_cell hW.1 2;have q2 := heap_cell hW.2.1 2;have p3 := heap_cell hW.1 3;have q3 := heap_cell hW.2.1 3;have p4 := heap_cell hW.1 4;have q4 := heap_cell hW.2.1 4;clear hF;unfold addAt
    go_simp
    simp only [addUpon];refine (HK1 W).mono ?_;rintro e w4 ⟨rfl, rfl⟩;exact ⟨_, rfl, hR _ (Below.refl _ _)⟩
  simp only [Act.put, List.setIfInBounds_toArray, List.set_cons_zero, List.set_cons_succ]
  iterate 4
    apply a_con
    · intro x; go_simp; done
    · intro x W R hW hF hR;have p0 := heap_cell hW.1 0;have q0 := heap_cell hW.2.1 0;have p1 := heap_cell hW.1 1;have q1 := heap_cell hW.2.1 1;have p2 := heap_cell hW.1 2;have q2 := heap_cell hW.2.1 2;have p3 := heap_cell hW.1 3;have q3 := heap_cell hW.2.1 3;have p4 := heap_cell hW.1 4;have q4 := heap_cell hW.2.1 4;clear hF;unfold addAt
      go_simp
      simp only [addUpon];exact hR _ (Below.refl _ _)
    simp only [Act.put, List.setIfInBounds_toArray, List.set_cons_zero, List.set_cons_succ]
  apply a_con
  · intro x; go_simp; done
  · intro x W R hW hF hR;have p0 := heap_cell hW.1 0;have q0 := heap_cell hW.2.1 0;have p1 := heap_cell hW.1 1;have q1 := heap_cell hW.2.1 1;have p2 := heap_cell hW.1 2;have q2 := heap_cell hW.2.1 2;have p3 := heap_cell hW.1 3;have q3 := heap_cell hW.2.1 3;have p4 := heap_cell hW.1 4;have q4 := heap_cell hW.2.1 4;clear hF;unfold addAt
    go_simp
    simp only [addUpon];refine (HK2 W).mono ?_;rintro e w4 ⟨rfl, rfl⟩;exact ⟨_, rfl, hR _ (Below.refl _ _)⟩
  simp only [Act.put, List.setIfInBounds_toArray, List.set_cons_zero, List.set_cons_succ]
  iterate 4
    apply a_con
    · intro x; go_simp; done
    · intro x W R hW hF hR;have p0 := heap_cell hW.1 0;have q0 := heap_cell hW.2.1 0;have p1 := heap_cell hW.1 1;have q1 := heap_cell hW.2.1 1;have p2 := heap_cell hW.1 2;have q2 := heap_cell hW.2.1 2;have p3 := heap_cell hW.1 3;have q3 := heap_cell hW.2.1 3;have p4 := heap_cell hW.1 4;have q4 := heap_cell hW.2.1 4;clear hF;unfold addAt
      go_simp
      simp only [addUpon];exact hR _ (Below.refl _ _)
    simp only [Act.put, List.setIfInBounds_toArray, List.set_cons_zero, List.set_cons_succ]
  apply a_con
  · intro x; go_simp; done
  · intro x W R hW hF hR;have p0 := heap_cell hW.1 0;have q0 := heap_cell hW.2.1 0;have p1 := heap_cell hW.1 1;have q1 := heap_cell hW.2.1 1;have p2 := heap_cell hW.1 2;have q2 := heap_cell hW.2.1 2;have p3 := heap_cell hW.1 3;have q3 := heap_cell hW.2.1 3;have p4 := heap_cell hW.1 4;have q4 := heap_cell hW.2.1 4;clear hF;unfold addAt
    go_simp
    simp only [addUpon];refine (HK3 W).mono ?_;rintro e w4 ⟨rfl, rfl⟩;exact ⟨_, rfl, hR _ (Below.refl _ _)⟩
  simp only [Act.put, List.setIfInBounds_toArray, List.set_cons_zero, List.set_cons_succ]
  iterate 4
    apply a_con
    · intro x; go_simp; done
    · intro x W R hW hF hR;have p0 := heap_cell hW.1 0;have q0 := heap_cell hW.2.1 0;have p1 := heap_cell hW.1 1;have q1 := heap_cell hW.2.1 1;have p2 := heap_cell hW.1 2;have q2 := heap_cell hW.2.1 2;have p3 := heap_cell hW.1 3;have q3 := heap_cell hW.2.1 3;have p4 := heap_cell hW.1 4;have q4 := heap_cell hW.2.1 4;clear hF;unfold addAt
      go_simp
      simp only [addUpon];exact hR _ (Below.refl _ _)
    simp only [Act.put, List.setIfInBounds_toArray, List.set_cons_zero, List.set_cons_succ]
  apply a_con
  · intro x; go_simp; done
  · intro x W R hW hF hR;have p0 := heap_cell hW.1 0;have q0 := heap_cell hW.2.1 0;have p1 := heap_cell hW.1 1;have q1 := heap_cell hW.2.1 1;have p2 := heap_cell hW.1 2;have q2 := heap_cell hW.2.1 2;have p3 := heap_cell hW.1 3;have q3 := heap_cell hW.2.1 3;have p4 := heap_cell hW.1 4;have q4 := heap_cell hW.2.1 4;clear hF;unfold addAt
    go_simp
    simp only [addUpon];refine (HK4 W).mono ?_;rintro e w4 ⟨rfl, rfl⟩;exact ⟨_, rfl, hR _ (Below.refl _ _)⟩
  simp only [Act.put, List.setIfInBounds_toArray, List.set_cons_zero, List.set_cons_succ];refine a_opq (fun u W => ∃ B, u = .slice (some ⟨B, 0, none⟩) 5 5 ∧ RowI W (some ⟨B, 0, none⟩) B [k0, k1, k2, k3, k4]) (fun _ _ _ h hb => let ⟨B, h1, h2⟩ := h; ⟨B, h1, h2.far hb⟩) ?_ ?_ ?_
  · intro x; go_simp; done
  · intro x W R hW hF hR;clear hF;unfold addAt
    go_simp
    simp only [addUpon];refine hR _ _ ⟨W.heap.size, rfl, ⟨fun _ => rfl, by simp, by simp, fun t ht => ?_⟩⟩ (alloc_far' W _);rw [World.cell?_alloc_at _ _ _ _ rfl];have ht' : t = 0 ∨ t = 1 ∨ t = 2 ∨ t = 3 ∨ t = 4 := by simp only [List.length_cons, List.length_nil] at ht; omega
    rcases ht' with rfl | rfl | rfl | rfl | rfl <;> rfl
  simp only [Act.put, List.setIfInBounds_toArray, List.set_cons_zero, List.set_cons_succ, List.length_cons, List.length_nil, Nat.zero_add, Nat.reduceAdd];apply a_con
  · intro x; go_simp; done
  · intro x W R hW hF hR;obtain ⟨B, hx, hrow⟩ := hF.1.2 rfl rfl rfl;have ho := or_any (some ⟨B, 0, none⟩) B 5 [k0, k1, k2, k3, k4] W hrow;clear hF;simp only [hx];unfold addAt
    go_simp
    simp only [addUpon];refine ho.mono ?_;rintro e w4 ⟨rfl, rfl⟩;exact ⟨_, rfl, hR _ (Below.refl _ _)⟩
  simp only [Act.put, List.setIfInBounds_toArray, List.set_cons_zero, List.set_cons_succ];apply a_con
  · intro x; go_simp; done
  · intro x W R hW hF hR;clear hF;unfold addAt
    go_simp
    simp only [addUpon];exact hR _ (Below.refl _ _)
  simp only [Act.put, List.setIfInBounds_toArray, List.set_cons_zero, List.set_cons_succ];refine a_nil (by kernel_rfl) (by kernel_rfl) (by kernel_rfl) (fun _ _ h hb => ⟨(hb.block _ (lt_of_heap h.1)).trans h.1, (hb.block _ (lt_of_heap h.2.1)).trans h.2.1, Nat.le_trans h.2.2.1 hb.size, h.2.2.2.trans (hb.mono h.2.2.1)⟩) (fun _ _ _ _ => trivial) (fun _ _ => trivial) (⟨HX.out.1, HX.out.2.1, HX.out.2.2.1, HX.out.2.2.2.trans ((Below.refl _ _).drew)⟩) ?_;intro x W hE hW hF hD;clear hD;have hB := (hW rfl).2.2.2;have HB := Lib.hid hB;clear hF hW hB HK0 HK1 HK2 HK3 HK4
  go_wp2
  go_ret
  exact ⟨by rw [HND.out]; rfl, HB.out⟩
end
end Go.Proofs.YtapdbeaoakcjeaaGreatDoor.Se
/- The program's Compare at any two lists of nodes; Equal of the reference. -/
namespace Go.Proofs.YtapdbeaoakcjeaaGreatDoor.Se
open Go.RowKit Nmx

section
set_option maxHeartbeats 8000000
set_option maxRecDepth 100000
theorem compareFunc_any (ax bx : Option Addr) (c1 c2 : Nat) (ta tb : List Nd) (w : World) (ha : NodesO w ax ta) (hb : NodesO w bx tb) (hla : ta.length ≤ 1000000) (hlb : tb.length ≤ 1000000) :
    Calls Tryz.prog 33 #[.slice ax ta.length c1, .slice bx tb.length c2, .func (.func 34) #[] #[]] w fun e w' => e = .returned (.int .i64 (tsCmp ta tb)) ∧ Below w.heap.size w w' := by
  have HA := Lib.hid ha;have HB := Lib.hid hb;obtain ⟨n1, hn1⟩ : ∃ n, ta.length = n := ⟨_, rfl⟩
  obtain ⟨n2, hn2⟩ : ∃ n, tb.length = n := ⟨_, rfl⟩
  have HN1 := Lib.hid hn1;have HN2 := Lib.hid hn2;rw [hn1] at hla ⊢;rw [hn2] at hlb ⊢;clear ha hb hn1 hn2;generalize hS : w.heap.size = S at *;have HS := Lib.hid hS
  go_enter Tryz.func33, Tryz.ntmps33
  go_wp2
  go_loopw [13] (fun i wr => ∃ k : Nat, k ≤ n1 ∧ k ≤ n2 ∧ i = .int .i64 k ∧ tsCmp ta tb = tsCmp (ta.drop k) (tb.drop k) ∧ Below S w wr) (fun i _ => n1 - (intOf i).toNat)
  case atStart => exact ⟨0, Nat.zero_le _, Nat.zero_le _, rfl, rfl, Below.refl _ _⟩
  case round =>
    obtain ⟨k, hk1, hk2, rfl, hts, hbel⟩ := hrel;have HT := Lib.hid hts;have HBL := Lib.hid hbel;have hsw : S ≤ wr.heap.size := by have := hbel.size; omega
    clear hts hbel
    by_cases h1 : k < n1
    · have h1I : (k : Int) < (n1 : Int) := by omega
      have hk1l : k < ta.length := by rw [HN1.out]; exact h1
      obtain ⟨g1, off1, rfl, hl1, hc1⟩ := HA.out (by omega);have hx := hc1 k ta[k] (List.getElem?_eq_getElem hk1l);have hl1' : g1 < S := by have := HS.out; omega
      by_cases h2 : k < n2
      · have h2I : (k : Int) < (n2 : Int) := by omega
        have hk2l : k < tb.length := by rw [HN2.out]; exact h2
        obtain ⟨g2, off2, rfl, hl2, hc2⟩ := HB.out (by omega);have hy := hc2 k tb[k] (List.getElem?_eq_getElem hk2l);have hl2' : g2 < S := by have := HS.out; omega
        have hst : tsCmp (ta.drop k) (tb.drop k) = if ndCmp ta[k] tb[k] = 0 then tsCmp (ta.drop (k + 1)) (tb.drop (k + 1)) else ndCmp ta[k] tb[k] := by
          rw [List.drop_eq_getElem_cons hk1l, List.drop_eq_getElem_cons hk2l]; rfl
        generalize ta[k] = x1 at *;generalize tb[k] = x2 at *;have hcn := fun W : World => compareNodes_any x1 x2 W
        obtain ⟨op1, sort1, name1, num1, kids1⟩ := x1;obtain ⟨op2, sort2, name2, num2, kids2⟩ := x2;have a0 : wr.cell? ⟨g1, off1 + k * 5, none⟩ = some (.int .i64 op1) := (HBL.out.cell (p := ⟨g1, off1 + k * 5, none⟩) hl1').trans (hx 0 (by decide));have a1 : wr.cell? ⟨g1, off1 + k * 5 + 1, none⟩ = some (.int .i64 sort1) := (HBL.out.cell (p := ⟨g1, off1 + k * 5 + 1, none⟩) hl1').trans (hx 1 (by decide));have a2 : wr.cell? ⟨g1, off1 + k * 5 + 2, none⟩ = some (.string name1) := (HBL.out.cell (p := ⟨g1, off1 + k * 5 + 2, none⟩) hl1').trans (hx 2 (by decide));have a3 : wr.cell? ⟨g1, off1 + k * 5 + 3, none⟩ = some (.string num1) := (HBL.out.cell (p := ⟨g1, off1 + k * 5 + 3, none⟩) hl1').trans (hx 3 (by decide));have a4 : wr.cell? ⟨g1, off1 + k * 5 + 4, none⟩ = some (.int .i64 kids1) := (HBL.out.cell (p := ⟨g1, off1 + k * 5 + 4, none⟩) hl1').trans (hx 4 (by decide));have b0 : wr.cell? ⟨g2, off2 + k * 5, none⟩ = some (.int .i64 op2) := (HBL.out.cell (p := ⟨g2, off2 + k * 5, none⟩) hl2').trans (hy 0 (by decide));have b1 : wr.cell? ⟨g2, off2 + k * 5 + 1, none⟩ = some (.int .i64 sort2) := (HBL.out.cell (p := ⟨g2, off2 + k * 5 + 1, none⟩) hl2').trans (hy 1 (by decide));have b2 : wr.cell? ⟨g2, off2 + k * 5 + 2, none⟩ = some (.string name2) := (HBL.out.cell (p := ⟨g2, off2 + k * 5 + 2, none⟩) hl2').trans (hy 2 (by decide));have b3 : wr.cell? ⟨g2, off2 + k * 5 + 3, none⟩ = some (.string num2) := (HBL.out.cell (p := ⟨g2, off2 + k * 5 + 3, none⟩) hl2').trans (hy 3 (by decide));have b4 : wr.cell? ⟨g2, off2 + k * 5 + 4, none⟩ = some (.int .i64 kids2) := (HBL.out.cell (p := ⟨g2, off2 + k * 5 + 4, none⟩) hl2').trans (hy 4 (by decide))
        unfold Nd.val at hcn;simp only at hcn;clear hx hc1 hl1;generalize ndCmp ⟨op1, sort1, name1, num1, kids1⟩ ⟨op2, sort2, name2, num2, kids2⟩ = kc at *;have HST := Lib.hid hst;have hg1 : g1 < wr.heap.size := by omega
        have hg2 : g2 < wr.heap.size := by omega
        have hA := alloc_far' wr (.cells #[.int .i64 op1, .int .i64 sort1, .string name1, .string num1, .int .i64 kids1] 34);have hA2 := alloc_far' (wr.alloc (.cells #[.int .i64 op1, .int .i64 sort1, .string name1, .string num1, .int .i64 kids1] 34)) (.cells #[.int .i64 op2, .int .i64 sort2, .string name2, .string num2, .int .i64 kids2] 34);have HB2 := Lib.hid (HBL.out.trans ((hA.trans (hA2.mono hA.size)).mono hsw));have hs2 : S ≤ ((wr.alloc (.cells #[.int .i64 op1, .int .i64 sort1, .string name1, .string num1, .int .i64 kids1] 34)).alloc (.cells #[.int .i64 op2, .int .i64 sort2, .string name2, .string num2, .int .i64 kids2] 34)).heap.size := Nat.le_trans hsw (Nat.le_trans hA.size hA2.size);have hcn2 := hcn ((wr.alloc (.cells #[.int .i64 op1, .int .i64 sort1, .string name1, .string num1, .int .i64 kids1] 34)).alloc (.cells #[.int .i64 op2, .int .i64 sort2, .string name2, .string num2, .int .i64 kids2] 34));clear hst hy hc2 hl2 HBL hcn hA hA2 hS
        go_wp2_with fail
        refine hcn2.mono ?_;rintro e w9 ⟨rfl, hb9⟩;have HB9 := Lib.hid (HB2.out.trans (hb9.mono hs2));clear hb9 hcn2 HB2 hs2 a0 a1 a2 a3 a4 b0 b1 b2 b3 b4
        by_cases hz : kc = 0
        · have HZ : Hid (tsCmp ta tb = tsCmp (ta.drop (k + 1)) (tb.drop (k + 1))) := Lib.hid (by rw [HT.out, HST.out, if_pos hz]);subst hz;clear HT HST
          go_wp2
          go_roundw
          case rel => exact ⟨k + 1, by omega, by omega, by go_num, HZ.out, HB9.out⟩
          case measure => simp [intOf]; omega
        · have HR : Hid (tsCmp ta tb = kc) := Lib.hid (by rw [HT.out, HST.out, if_neg hz]);have hzf : (kc == 0) = false := by simp [hz]
          clear HT HST
          go_wp2
          go_ret
          exact ⟨by rw [HR.out]; rfl, HB9.out⟩
      · have hke : k = n2 := by omega
        subst hke;have hdr : tb.drop k = [] := List.drop_of_length_le (by rw [HN2.out]; exact Nat.le_refl _)
        have HR : Hid (tsCmp ta tb = 1) := Lib.hid (by
          rw [HT.out, hdr, ts_nil2, List.length_drop, HN1.out]; unfold cmpI; rw [if_neg (by omega), if_pos (by omega)])
        generalize ta[k] = x1 at *;obtain ⟨op1, sort1, name1, num1, kids1⟩ := x1;have HB2 := Lib.hid (HBL.out.trans ((alloc_far' wr (.cells #[.int .i64 op1, .int .i64 sort1, .string name1, .string num1, .int .i64 kids1] 34)).mono hsw));have a0 : wr.cell? ⟨g1, off1 + k * 5, none⟩ = some (.int .i64 op1) := (HBL.out.cell (p := ⟨g1, off1 + k * 5, none⟩) hl1').trans (hx 0 (by decide));have a1 : wr.cell? ⟨g1, off1 + k * 5 + 1, none⟩ = some (.int .i64 sort1) := (HBL.out.cell (p := ⟨g1, off1 + k * 5 + 1, none⟩) hl1').trans (hx 1 (by decide));have a2 : wr.cell? ⟨g1, off1 + k * 5 + 2, none⟩ = some (.string name1) := (HBL.out.cell (p := ⟨g1, off1 + k * 5 + 2, none⟩) hl1').trans (hx 2 (by decide));have a3 : wr.cell? ⟨g1, off1 + k * 5 + 3, none⟩ = some (.string num1) := (HBL.out.cell (p := ⟨g1, off1 + k * 5 + 3, none⟩) hl1').trans (hx 3 (by decide));have a4 : wr.cell? ⟨g1, off1 + k * 5 + 4, none⟩ = some (.int .i64 kids1) := (HBL.out.cell (p := ⟨g1, off1 + k * 5 + 4, none⟩) hl1').trans (hx 4 (by decide));clear hx hc1 hl1;have hg1 : g1 < wr.heap.size := by omega
        clear hdr HT hS HBL
        go_wp2
        go_ret
        exact ⟨by rw [HR.out]; rfl, HB2.out⟩
    · have hke : k = n1 := by omega
      subst hke;have hdr : ta.drop k = [] := List.drop_of_length_le (by rw [HN1.out]; exact Nat.le_refl _)
      by_cases hlt : k < n2
      · have HR : Hid (tsCmp ta tb = -1) := Lib.hid (by
          rw [HT.out, hdr, ts_nil, List.length_drop, HN2.out]; unfold cmpI; rw [if_pos (by omega)])
        have hltI : (k : Int) < (n2 : Int) := by omega
        clear hdr HT hS
        go_wp2
        go_ret
        exact ⟨by rw [HR.out]; rfl, HBL.out⟩
      · have HR : Hid (tsCmp ta tb = 0) := Lib.hid (by
          rw [HT.out, hdr, ts_nil, List.length_drop, HN2.out]; unfold cmpI; rw [if_neg (by omega), if_neg (by omega)])
        have hltI : ¬ (k : Int) < (n2 : Int) := by omega
        clear hdr HT hS
        go_wp2
        go_ret
        exact ⟨by rw [HR.out]; rfl, HBL.out⟩
theorem termCompare_any (ax bx : Option Addr) (c1 c2 : Nat) (ta tb : List Nd) (w : World) (ha : NodesO w ax ta) (hb : NodesO w bx tb) (hla : ta.length ≤ 1000000) (hlb : tb.length ≤ 1000000) :
    Calls Tryz.prog 9 #[.slice ax ta.length c1, .slice bx tb.length c2] w fun e w' => e = .returned (.int .i64 (tsCmp ta tb)) ∧ Below w.heap.size w w' := by
  have h := compareFunc_any ax bx c1 c2 ta tb w ha hb hla hlb;clear ha hb;generalize ta.length = n1 at *;generalize tb.length = n2 at *
  go_enter Tryz.func9, Tryz.ntmps9
  go_wp2_with fail
  refine h.mono ?_;rintro e w9 ⟨rfl, hb9⟩;have HB := Lib.hid hb9;clear h hb9
  go_wp2
  go_ret
  exact ⟨rfl, HB.out⟩
theorem refEqual_any (ax bx : Option Addr) (c1 c2 : Nat) (ta tb : List Nd) (w : World) (ha : NodesO w ax ta) (hb : NodesO w bx tb) (hla : ta.length ≤ 1000000) (hlb : tb.length ≤ 1000000) :
    Calls Tryz.prog 11 #[.slice ax ta.length c1, .slice bx tb.length c2] w fun e w' => e = .returned (.bool (tsCmp ta tb == 0)) ∧ Below w.heap.size w w' := by
  have h := refCompare_any ax bx c1 c2 ta tb w ha hb hla hlb;clear ha hb;generalize ta.length = n1 at *;generalize tb.length = n2 at *
  go_enter Tryz.func11, Tryz.ntmps11
  go_wp2_with fail
  refine h.mono ?_;rintro e w9 ⟨rfl, hb9⟩;have HB := Lib.hid hb9;clear h hb9
  go_wp2
  go_ret
  exact ⟨rfl, HB.out⟩
end
end Go.Proofs.YtapdbeaoakcjeaaGreatDoor.Se

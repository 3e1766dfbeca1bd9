/- SubstFresh's walk. -/
import Derived.Test.YthefknoicelhaaaGreatDoorFZM
namespace Go.Proofs.YthefknoicelhaaaGreatDoor.Se
open Go.RowKit Nmx
open Go.MapKept
section
set_option maxRecDepth 100000
set_option maxHeartbeats 4000000
theorem fresh_law (base : ByteArray) (ao : Option Addr) (len cap : Nat) (ss : List ByteArray) (n : Int) (w : World) (hEn : Env w) (hA : StrA w ao cap ss) (hss : ss.length = len) (hnil : ao = none → cap = 0) (hroom : (1 + len) * 16 ≤ 140737488355328) :
    Calls Tryz.prog 5 #[.string base, .slice ao len cap, .int .i64 n] w fun e w' => e = .returned (.bool true) ∧ Below w.heap.size w w' := by
  obtain ⟨i0, hi, hz0, hz1, hz2⟩ := info_parts infoS
  obtain ⟨m12, hm12, hc12⟩ := modN_at n 12 (by omega) (by omega)
  obtain ⟨m13, hm13, hc13⟩ := modN_at n 13 (by omega) (by omega)
  have hal := alloc_far' w (.cells #[.string base] 9)
  have HAA := Lib.hid (hA.far hal)
  have HAL := Lib.hid hal
  have HA := Lib.hid hA
  have HNIL := Lib.hid hnil
  have HSS := Lib.hid hss
  have HEN := Lib.hid fun (W : World) (hW : Below w.heap.size w W) => hEn.far hW
  have HAW := Lib.hid fun (W : World) (hW : Below w.heap.size w W) => awake5 W (hEn.far hW)
  have HC12 := Lib.hid hc12
  have HC13 := Lib.hid hc13
  clear hal hA hEn hc12 hc13 hnil hss
  go_enter Tryz.func5, Tryz.ntmps5
  go_wp2_with (at_builtin; go_must (refine wpList_append_strA rfl _ _ 22 rfl w.heap.size 9 i0 (.string ⟨#[]⟩) Tryz.underlying22 hi hz0 hz1 hz2 rfl _ 1 _ rfl (RowS.built w base) ao len cap ss HSS.out rfl HAA.out HNIL.out (by unfold maxLen; omega) hroom HAL.out.size ?_))
  intro v1 w2 hown hgr
  have hrow : RowS w.heap.size w2 v1 (base :: ss) := RowS.of hown (by rw [List.length_cons, HSS.out, Nat.add_comm]) rfl
  have hb2 : Below w.heap.size w w2 := HAL.out.grown hgr (HAL.out.size) (fun k e => by cases e; exact Nat.le_refl _)
  obtain ⟨g1, c1, rfl, hst, -⟩ := hrow.strs (by simp)
  have HB2 := Lib.hid hb2
  have hsh := shorts_any (base :: ss) g1 c1 (1 + len) w2 (by rw [List.length_cons, HSS.out, Nat.add_comm]) (by omega) hst
  rw [show (base :: ss).length = 1 + len by rw [List.length_cons, HSS.out, Nat.add_comm]]
  clear hown hgr hrow hb2 hst HAA HAL
  cases hsf : shoF (base :: ss) with
  | false =>
    rw [hsf] at hsh
    go_wp2_with fail
    refine hsh.mono ?_
    rintro e w3 ⟨rfl, rfl⟩
    clear hsh
    go_wp2_with fail
    refine (HAW.out _ HB2.out).mono ?_
    rintro e w4 ⟨rfl, hb4⟩
    have HB4 := Lib.hid (HB2.out.trans (hb4.mono HB2.out.size))
    clear hb4
    go_wp2
    go_ret
    exact ⟨rfl, HB4.out⟩
  | true =>
    rw [hsf] at hsh
    have hl11 : len ≤ 11 := by
      unfold shoF at hsf
      simp only [Bool.and_eq_true, decide_eq_true_eq, List.length_cons, HSS.out] at hsf
      omega
    clear hsf
    go_wp2_with fail
    refine hsh.mono ?_
    rintro e w3 ⟨rfl, rfl⟩
    clear hsh
    go_wp2
    go_loop [7, 8] (fun v7 v8 => ∃ (i : Nat) (t : ByteArray), v7 = .string t ∧ v8 = .int .i64 i ∧ i ≤ 30 + m12 ∧ t.size = i + 1) (fun _ v8 => 100 - (intOf v8).toNat)
    case atStart => exact ⟨0, ⟨#[113]⟩, rfl, rfl, by omega, rfl⟩
    case round =>
      obtain ⟨i, t, rfl, rfl, hi2, ht⟩ := hrel
      have hts : t.size ≤ 50 := by omega
      by_cases hlt : i < 30 + m12
      · have hlt' : (i : Int) < 30 + (m12 : Int) := by omega
        go_wp2_with (go_at_call 17; refine (HC12.out _).mono ?_; rintro e w1 ⟨rfl, hw1⟩; obtain rfl := hw1.symm)
        go_round
        case rel => exact ⟨i + 1, t ++ ⟨#[122]⟩, rfl, by go_num, by omega, by rw [ByteArray.size_append, ht]; rfl⟩
        case measure => simp [intOf]; omega
      · have hlt' : ¬ (i : Int) < 30 + (m12 : Int) := by omega
        have HAB := Lib.hid (HA.out.far HB2.out)
        clear hlt hm12
        go_upto_region 8 with (go_at_call 17; refine (HC12.out _).mono ?_; rintro e w1 ⟨rfl, hw1⟩; obtain rfl := hw1.symm)
        go_wp2_with (at_builtin; go_must (refine wpList_append_strA rfl _ _ 22 rfl w.heap.size 9 i0 (.string ⟨#[]⟩) Tryz.underlying22 hi hz0 hz1 hz2 rfl _ 0 _ rfl (RowS.nil _ _) ao len cap ss HSS.out rfl HAB.out HNIL.out (by unfold maxLen; omega) (by omega) HB2.out.size ?_))
        intro v4 w4 hown hgr
        have HR4 := Lib.hid (RowS.of (ts := ss) hown HSS.out rfl)
        have HB4 := Lib.hid (HB2.out.grown hgr HB2.out.size (fun k e => by cases e))
        clear hown hgr hlt' HC12 HAB HA HNIL HB2
        go_wp2_with (at_builtin; go_must (refine wpList_append_own _ rfl _ _ 22 rfl w.heap.size 9 i0 (.string ⟨#[]⟩) 1 16 Tryz.underlying22 hi hz0 hz1 hz2 rfl (by decide) _ len _ rfl (by have := HR4.out.alloc (.cells #[.string t] 9); rw [HSS.out] at this; exact this) ⟨w4.heap.size, 0, none⟩ 1 1 [.string t] rfl rfl (World.news_of_block (cs := #[.string t]) (t := 9) (fr := (0, 0)) (heap_alloc_new w4 _)) (by simp [Value.oneCell']) (by unfold maxLen; omega) (by omega) (by have := HB4.out.size; simp; omega) ?_))
        intro v5 w5 hown hgr _
        have HR5 := Lib.hid (RowS.of (ts := ss ++ [t]) hown (by rw [List.length_append, HSS.out]; rfl) (by rw [List.map_append]; rfl))
        have HB5 := Lib.hid ((HB4.out.alloc HB4.out.size _).grown hgr (by have := HB4.out.size; simp; omega) (fun k e => (HR4.out.lt k e).1))
        clear hown hgr HR4 HB4
        go_wp2
        go_loopw [9, 10] (fun v9 v10 wr => ∃ (k : Nat) (ts : List ByteArray), v10 = .int .i64 k ∧ k ≤ m13 ∧ ts.length = len + 1 + 2 * k ∧ RowS w.heap.size wr v9 ts ∧ Below w.heap.size w wr) (fun _ v10 _ => 100 - (intOf v10).toNat)
        case atStart => exact ⟨0, ss ++ [t], rfl, Nat.zero_le _, by rw [List.length_append, HSS.out]; rfl, HR5.out, HB5.out⟩
        case round =>
          clear HR5 HB5
          obtain ⟨k, ts, rfl, hk, htl, hr, hb⟩ := hrel
          have HB := Lib.hid hb
          obtain ⟨g9, c9, rfl, hst, -⟩ := hr.strs (by omega)
          have HR := Lib.hid hr
          have HST := Lib.hid hst
          have HTL := Lib.hid htl
          rw [htl]
          clear hb hr hst
          by_cases hlt : k < m13
          · have hlt' : (k : Int) < (m13 : Int) := by omega
            have h1 := freshRA t (ts.map (·.toList)) (some ⟨g9, 0, none⟩) g9 (len + 1 + 2 * k) c9 wr (by rw [List.length_map, HTL.out]) (by omega) HST.out (HEN.out _ HB.out)
            go_wp2_with (go_at_call 17; refine (HC13.out _).mono ?_; rintro e w1 ⟨rfl, hw1⟩; obtain rfl := hw1.symm)
            refine h1.mono ?_
            rintro e w6 ⟨rfl, hb6⟩
            have HB6 := Lib.hid (HB.out.trans (hb6.mono HB.out.size))
            have HR6 := Lib.hid (HR.out.far hb6)
            have h2 := freshRA ⟨#[120]⟩ (ts.map (·.toList)) (some ⟨g9, 0, none⟩) g9 (len + 1 + 2 * k) c9 w6 (by rw [List.length_map, HTL.out]) (by omega) (HST.out.far hb6) (HEN.out _ HB6.out)
            clear h1 hb6 HB HR
            generalize frB t (ts.map (·.toList)) = f1 at *
            go_wp2_with fail
            refine h2.mono ?_
            rintro e w7 ⟨rfl, hb7⟩
            have HB7 := Lib.hid (HB6.out.trans (hb7.mono HB6.out.size))
            have HR7 : Hid (w7.ownsRow w.heap.size 9 1 (.slice (some ⟨g9, 0, none⟩) (len + 1 + 2 * k) c9) (len + 1 + 2 * k) (ts.map Value.string)) := Lib.hid (by
              have := HR6.out.far hb7
              unfold RowS at this
              rwa [HTL.out] at this)
            clear h2 hb7 HB6 HR6 HST
            generalize frB ⟨#[120]⟩ (ts.map (·.toList)) = f2 at *
            go_wp2_with (at_builtin; go_must (refine wpList_append_own _ rfl _ _ 22 rfl w.heap.size 9 i0 (.string ⟨#[]⟩) 1 16 Tryz.underlying22 hi hz0 hz1 hz2 rfl (by decide) _ (len + 1 + 2 * k) _ rfl (HR7.out.alloc _) ⟨w7.heap.size, 0, none⟩ 2 2 [.string f1, .string f2] rfl rfl (World.news_of_block (cs := #[.string f1, .string f2]) (t := 9) (fr := (0, 0)) (heap_alloc_new w7 _)) (by simp [Value.oneCell']) (by unfold maxLen; omega) (by omega) (by have := HB7.out.size; simp; omega) ?_))
            intro v8 w8 hown hgr _
            have HR8 := Lib.hid (RowS.of (ts := ts ++ [f1, f2]) hown (by rw [List.length_append, HTL.out]; rfl) (by rw [List.map_append]; rfl))
            have HB8 := Lib.hid ((HB7.out.alloc HB7.out.size _).grown hgr (by have := HB7.out.size; simp; omega) (fun k e => (HR7.out.lt k e).1))
            clear hown hgr HR7 HB7
            go_wp2
            go_roundw
            case rel => exact ⟨k + 1, ts ++ [f1, f2], by go_num, by omega, by rw [List.length_append, HTL.out]; show len + 1 + 2 * k + 2 = _; omega, HR8.out, HB8.out⟩
            case measure => simp [intOf]; omega
          · have hlt' : ¬ (k : Int) < (m13 : Int) := by omega
            obtain ⟨N, hN⟩ : ∃ N, len + 1 + 2 * k = N := ⟨_, rfl⟩
            have hN40 : N ≤ 40 := by omega
            rw [hN] at HTL ⊢
            clear hN hlt hk hm13
            have hal := alloc_far' wr (.cells #[.string base, .string t, .string ⟨#[120]⟩, .string ⟨#[97, 110, 100]⟩, .string ⟨#[]⟩] 9)
            have hab := heap_alloc_new wr (.cells #[.string base, .string t, .string ⟨#[120]⟩, .string ⟨#[97, 110, 100]⟩, .string ⟨#[]⟩] 9)
            have HBA := Lib.hid (HB.out.trans (hal.mono HB.out.size))
            have HSA := Lib.hid (HST.out.far hal)
            have HAB := Lib.hid hab
            clear hal hab HB HST HR
            go_upto_region 15 with (go_at_call 17; refine (HC13.out _).mono ?_; rintro e w1 ⟨rfl, hw1⟩; obtain rfl := hw1.symm)
            generalize hwA : wr.alloc (.cells #[.string base, .string t, .string ⟨#[120]⟩, .string ⟨#[97, 110, 100]⟩, .string ⟨#[]⟩] 9) = wA at *
            generalize wr.heap.size = A at *
            clear hwA HC13 hlt'
            go_wp2
            go_loopw [12] (fun v12 wr => ∃ i : Nat, i ≤ 5 ∧ v12 = .int .i64 i ∧ Below w.heap.size w wr ∧ wr.heap[A]? = wA.heap[A]? ∧ Strs wr (some ⟨g9, 0, none⟩) g9 (ts.map (·.toList))) (fun v12 _ => 5 - (intOf v12).toNat)
            case atStart => exact ⟨0, by omega, rfl, HBA.out, rfl, HSA.out⟩
            case round =>
              clear HBA HSA
              obtain ⟨i, hi5, rfl, hb, ha, hst⟩ := hrel
              have HB := Lib.hid hb
              have HST := Lib.hid hst
              have HA := Lib.hid (ha.trans HAB.out)
              clear hb ha hst
              by_cases hlt : i < 5
              · have hlt' : (i : Int) < 5 := by omega
                obtain ⟨b, hcb⟩ : ∃ b, wr.cell? ⟨A, i, none⟩ = some (.string b) := by
                  match i, hlt with
                  | 0, _ => exact ⟨_, heap_cell HA.out 0⟩
                  | 1, _ => exact ⟨_, heap_cell HA.out 1⟩
                  | 2, _ => exact ⟨_, heap_cell HA.out 2⟩
                  | 3, _ => exact ⟨_, heap_cell HA.out 3⟩
                  | 4, _ => exact ⟨_, heap_cell HA.out 4⟩
                have h1 := freshPA b (ts.map (·.toList)) (some ⟨g9, 0, none⟩) g9 N c9 wr (by rw [List.length_map, HTL.out]) (by omega) HST.out (HEN.out _ HB.out)
                go_wp2_with fail
                refine h1.mono ?_
                rintro e w6 ⟨rfl, hb6⟩
                have hcb6 := (hb6.cell (p := ⟨A, i, none⟩) (lt_of_heap HA.out)).trans hcb
                have HA6 := Lib.hid ((hb6.block _ (lt_of_heap HA.out)).trans HA.out)
                have HB6 := Lib.hid (HB.out.trans (hb6.mono HB.out.size))
                have HST6 := Lib.hid (HST.out.far hb6)
                have h2 := freshRA b (ts.map (·.toList)) (some ⟨g9, 0, none⟩) g9 N c9 w6 (by rw [List.length_map, HTL.out]) (by omega) HST6.out (HEN.out _ HB6.out)
                clear h1 hb6 hcb HA HB HST
                go_wp2_with fail
                refine h2.mono ?_
                rintro e w7 ⟨rfl, hb7⟩
                have hcb7 := (hb7.cell (p := ⟨A, i, none⟩) (lt_of_heap HA6.out)).trans hcb6
                have HA7 := Lib.hid ((hb7.block _ (lt_of_heap HA6.out)).trans HA6.out)
                have HB7 := Lib.hid (HB6.out.trans (hb7.mono HB6.out.size))
                have HST7 := Lib.hid (HST6.out.far hb7)
                have h3 := refName_any b w7
                clear h2 hb7 hcb6 HA6 HB6 HST6
                cases hnm : nameF b.toList with
                | false =>
                  have hf : frB b (ts.map (·.toList)) = ⟨#[]⟩ := by unfold frB; rw [hnm]; rfl
                  rw [hnm] at h3
                  rw [hf]
                  clear hf hnm
                  go_wp2_with fail
                  refine h3.mono ?_
                  rintro e w8 ⟨rfl, hb8⟩
                  have HA8 := Lib.hid ((hb8.block _ (lt_of_heap HA7.out)).trans HA7.out)
                  have HB8 := Lib.hid (HB7.out.trans (hb8.mono HB7.out.size))
                  have HST8 := Lib.hid (HST7.out.far hb8)
                  clear h3 hb8 hcb7 HA7 HB7 HST7
                  go_wp2
                  go_loop [14] (fun v14 => ∃ k : Nat, k ≤ N ∧ v14 = .int .i64 k) (fun v14 => N - (intOf v14).toNat)
                  case atStart => exact ⟨0, Nat.zero_le _, rfl⟩
                  case round =>
                    obtain ⟨k, hk, rfl⟩ := hrel
                    by_cases hkl : k < N
                    · have hkl' : (k : Int) < (N : Int) := by omega
                      go_wp2
                      go_round
                      case rel => exact ⟨k + 1, by omega, by go_num⟩
                      case measure => simp [intOf]; omega
                    · have hkl' : ¬ (k : Int) < (N : Int) := by omega
                      go_wp2
                      go_roundw
                      case rel => exact ⟨i + 1, by omega, by go_num, HB8.out, HA8.out.trans HAB.out.symm, HST8.out⟩
                      case measure => simp [intOf]; omega
                | true =>
                  have hf : frB b (ts.map (·.toList)) = ⟨(freshF b.toList (ts.map (·.toList))).toArray⟩ := by unfold frB; rw [if_pos hnm]
                  have HFN : Hid (nameF (frB b (ts.map (·.toList))).toList = true) := Lib.hid (by rw [hf, toList_mk]; exact fresh_name hnm (by rw [List.length_map, HTL.out]; omega))
                  have HFL : Hid (∀ (k : Nat) (x : List UInt8), (ts.map (·.toList))[k]? = some x → ((frB b (ts.map (·.toList))).toList == x) = false) := Lib.hid fun k x hx => by
                    rw [hf, toList_mk]
                    exact beq_eq_false_iff_ne.2 fun e => fresh_free b.toList (ts.map (·.toList)) (by rw [e]; exact List.mem_of_getElem? hx)
                  rw [hnm] at h3
                  clear hf hnm
                  generalize frB b (ts.map (·.toList)) = f at *
                  have hf0 : f.toList.isEmpty = false := Bool.eq_false_iff.2 fun e => by
                    have := HFN.out
                    rw [List.isEmpty_iff.1 e] at this
                    exact absurd this (by decide +kernel)
                  go_wp2_with fail
                  refine h3.mono ?_
                  rintro e w8 ⟨rfl, hb8⟩
                  have HA8 := Lib.hid ((hb8.block _ (lt_of_heap HA7.out)).trans HA7.out)
                  have HB8 := Lib.hid (HB7.out.trans (hb8.mono HB7.out.size))
                  have HST8 := Lib.hid (HST7.out.far hb8)
                  clear h3 hb8 hcb7 HA7 HB7 HST7
                  go_wp2
                  go_loopw [14] (fun v14 wr => ∃ k : Nat, k ≤ N ∧ v14 = .int .i64 k ∧ Below w.heap.size w wr ∧ wr.heap[A]? = wA.heap[A]? ∧ Strs wr (some ⟨g9, 0, none⟩) g9 (ts.map (·.toList))) (fun v14 _ => N - (intOf v14).toNat)
                  case atStart => exact ⟨0, Nat.zero_le _, rfl, HB8.out, HA8.out.trans HAB.out.symm, HST8.out⟩
                  case round =>
                    clear HB8 HA8 HST8
                    obtain ⟨k, hk, rfl, hb, ha, hst⟩ := hrel
                    have HB := Lib.hid hb
                    have HA := Lib.hid (ha.trans HAB.out)
                    have HST := Lib.hid hst
                    clear hb ha hst
                    by_cases hkl : k < N
                    · have hkl' : (k : Int) < (N : Int) := by omega
                      obtain ⟨x, hx⟩ : ∃ x : ByteArray, (ts.map (·.toList))[k]? = some x.toList := ⟨ts[k]'(by rw [HTL.out]; exact hkl), by rw [List.getElem?_map, List.getElem?_eq_getElem (by rw [HTL.out]; exact hkl)]; rfl⟩
                      have hcx := HST.out.cells k _ hx
                      rw [← bytes_of (s := x) rfl] at hcx
                      have hq := HFL.out k _ hx
                      have h4 := refName_any f wr
                      rw [HFN.out] at h4
                      clear hx
                      go_wp2_with fail
                      refine h4.mono ?_
                      rintro e w9 ⟨rfl, hb9⟩
                      have HA9 := Lib.hid ((hb9.block _ (lt_of_heap HA.out)).trans HA.out)
                      have HB9 := Lib.hid (HB.out.trans (hb9.mono HB.out.size))
                      have HST9 := Lib.hid (HST.out.far hb9)
                      clear h4 hb9 HA HB HST
                      go_wp2
                      go_roundw
                      case rel => exact ⟨k + 1, by omega, by go_num, HB9.out, HA9.out.trans HAB.out.symm, HST9.out⟩
                      case measure => simp [intOf]; omega
                    · have hkl' : ¬ (k : Int) < (N : Int) := by omega
                      go_wp2
                      go_roundw
                      case rel => exact ⟨i + 1, by omega, by go_num, HB.out, HA.out.trans HAB.out.symm, HST.out⟩
                      case measure => simp [intOf]; omega
              · have hlt' : ¬ (i : Int) < 5 := by omega
                clear HA
                go_wp2_with fail
                refine (HAW.out _ HB.out).mono ?_
                rintro e w6 ⟨rfl, hb6⟩
                have HB6 := Lib.hid (HB.out.trans (hb6.mono HB.out.size))
                clear hb6
                go_wp2
                go_ret
                exact ⟨rfl, HB6.out⟩
end
end Go.Proofs.YthefknoicelhaaaGreatDoor.Se

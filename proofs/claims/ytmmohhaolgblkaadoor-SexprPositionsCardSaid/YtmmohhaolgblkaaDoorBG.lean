/- The statement on positions: its walk. -/
import Derived.Test.YtmmohhaolgblkaaDoorBF
import Derived.Test.YtmmohhaolgblkaaDoorAV
namespace Go.Proofs.YtmmohhaolgblkaaDoor
open Go.RowKit

/-- the text of a list that the choices make -/
theorem seqTextP (w1 w2 : World) (v : Value) (its : List It) (ts : List (List UInt8)) (hF : For 4 its ts) (h3 : ts.length ≤ 3) (hfew : its.length ≤ 363) (h2 : ∀ u ∈ ts, u.length ≤ 2000) (htx : ∀ x ∈ its, x.text.size ≤ 100)
    (hown : w2.ownsRow w1.heap.size 31 4 v its.length (flat its)) (h0 : 0 < w2.heap.size) :
    Calls Tryd.prog 13 #[v] w2 fun e w' => e = .returned (.string ⟨(lines ts).toArray⟩) ∧ Below w2.heap.size w2 w' := by
  obtain ⟨ao, g, cap, rfl, hl, hA, hg, hI⟩ := lies_of hown h0
  obtain ⟨E, X, hV, hL, hT, hX⟩ := hF.vt (by omega)
  exact formatItems_any ao g cap its E X 4 ts ⟨hV.up, hT, by omega⟩ hX h3 h2 w2 ⟨hI, hg, by omega, fun x hx => by have := htx x hx; omega⟩ hA


set_option maxHeartbeats 4000000 in
set_option maxRecDepth 100000 in
theorem positions_any (s : ByteArray) (ao : Option Addr) (len cap : Nat) (m : Int) (w : World) (hs : s.size ≤ maxLen) (h : ArgI w ao len cap) (hB : 0 < w.heap.size) (hM : w.cell? ⟨0, 0, none⟩ = some (.int .i64 m)) :
    Calls Tryd.prog 7 #[.string s, .slice ao len cap] w fun e w' => e = .returned (.bool true) ∧ Below w.heap.size w w' := by
  unfold maxLen at hs
  by_cases hbig : 300 < s.size
  · have haw := awake_any m w hB hM
    have h1 : (300 : Int) < (s.size : Int) := by omega
    go_enter Tryd.func7, Tryd.ntmps7
    go_wp2_with (go_at_call 11; refine haw.mono ?_; rintro e w' ⟨rfl, hb⟩)
    go_ret
    exact ⟨rfl, hb⟩
  · have hsq := sequence_any ao len cap w h
    have h1 : ¬ (300 : Int) < (s.size : Int) := by omega
    clear h
    go_enter Tryd.func7, Tryd.ntmps7
    go_wp2_with fail
    refine hsq.mono ?_
    rintro e w1 ⟨v, its, ts, rfl, hF, h3, hfew, h2, htx, hown, hb1⟩
    have hft := seqTextP w w1 v its ts hF h3 hfew h2 htx hown (by have := hb1.size; omega)
    have hll := lines_len ts h2
    have hM1 := (hb1.cell (p := ⟨0, 0, none⟩) hB).trans hM
    have HB1 := Lib.hid hb1
    have HM1 := Lib.hid hM1
    have hB1 : 0 < w1.heap.size := by have := hb1.size; omega
    have hsz : (⟨(lines ts).toArray⟩ : ByteArray).size ≤ 10000 := by
      show (lines ts).toArray.size ≤ 10000
      simp; omega
    clear hsq hF h2 htx hown hb1 hM1 hM hll
    generalize (⟨(lines ts).toArray⟩ : ByteArray) = f at *
    go_wp2_with fail
    refine hft.mono ?_
    rintro e w2 ⟨rfl, hb2⟩
    have HB2 := Lib.hid (HB1.out.trans (hb2.mono HB1.out.size))
    have hB2 : 0 < w2.heap.size := by have := hb2.size; omega
    have HM2 := Lib.hid ((hb2.cell (p := ⟨0, 0, none⟩) hB1).trans HM1.out)
    have htz : (f ++ s).size ≤ 20000 := by rw [ByteArray.size_append]; omega
    clear hft hb2 HB1 HM1
    have hpar := parse_any m (f ++ s) w2 hB2 HM2.out
    have hpos := parseT_pos (f ++ s)
    have hfw := parseT_few (f ++ s)
    unfold ParsePost at hpar
    generalize parseT (f ++ s) = r at *
    obtain ⟨L, a, q⟩ := r
    simp only at hpar hpos hfw
    have HPos := Lib.hid hpos
    clear hpos
    go_wp2_with fail
    generalize f ++ s = t at *
    refine hpar.mono ?_
    rintro e w3 ⟨vl, rfl, hol, hb3⟩
    have HB3 := Lib.hid (HB2.out.trans (hb3.mono HB2.out.size))
    have hB3 : 0 < w3.heap.size := by have := hb3.size; omega
    have hawn := fun nn => awake_any m (w3.drewN nn) hB3 ((hb3.cell (p := ⟨0, 0, none⟩) hB2).trans HM2.out)
    have HAW := Lib.hid hawn
    clear hawn
    by_cases hq : q = 0
    · subst hq
      obtain ⟨k, hP⟩ := HPos.out rfl
      obtain ⟨al, gl, cl, rfl, _, hA, hgl, hI⟩ := lies_of hol hB3
      have HP := Lib.hid hP
      have HA := Lib.hid hA
      have HI := Lib.hid hI
      clear hpar hol hb3 hP hA hI
      go_wp2_with fail
      go_loopw [9] (fun i wr => ∃ (i0 nn : Nat), i0 ≤ L.length ∧ i = .int .i64 i0 ∧ wr = w3.drewN nn) (fun i _ => L.length - (intOf i).toNat)
      case atStart => exact ⟨0, 0, Nat.zero_le _, rfl, rfl⟩
      case round =>
        obtain ⟨i, nn, hi, rfl, rfl⟩ := hrel
        by_cases hlt : i < L.length
        · obtain rfl := HA.out (by omega)
          obtain ⟨x, hx⟩ : ∃ x, L[i]? = some x := ⟨_, List.getElem?_eq_getElem hlt⟩
          have c0 := HI.out i x hx 0 (by omega)
          have c1 := HI.out i x hx 1 (by omega)
          have c3 := HI.out i x hx 3 (by omega)
          simp only [It.cells, List.getElem?_cons_succ, List.getElem?_cons_zero, Nat.add_zero] at c0 c1 c3
          obtain ⟨p, hp, hpz, h5, h4, hw⟩ := HP.out.lies x (List.mem_of_getElem? hx)
          rw [hp] at c3
          have hprev : i = 0 ∨ ∃ j p', i = j + 1 ∧ w3.cell? ⟨gl, j * 4 + 3, none⟩ = some (.int .i64 ((p' : Nat) : Int)) ∧ p' < p := by
            cases i with
            | zero => exact .inl rfl
            | succ j =>
              obtain ⟨y, hy⟩ : ∃ y, L[j]? = some y := ⟨_, List.getElem?_eq_getElem (by omega)⟩
              obtain ⟨p', hp', _⟩ := HP.out.lies y (List.mem_of_getElem? hy)
              have hlt2 := HP.out.asc j y x hy hx
              have := HI.out j y hy 3 (by omega)
              simp only [It.cells, List.getElem?_cons_succ, List.getElem?_cons_zero] at this
              rw [hp'] at this hlt2
              exact .inr ⟨j, p', rfl, this, by omega⟩
          have g1 : ¬ (p : Int) < 0 := by omega
          have g2 : ¬ (t.size : Int) ≤ (p : Int) := by omega
          have g3 : (0 : Int) ≤ (p : Int) := by omega
          have g4 : (p : Int) < (t.size : Int) := by omega
          obtain ⟨kind, text, kids, pos⟩ := x
          simp only at c0 c1 h5 h4 hw hp
          clear hx hp
          by_cases hk5 : kind = 5
          · have h40 := h5 hk5 hpz
            subst hk5
            have hb : ((t[p].toNat : Int) != 40) = false := by simp [h40]
            clear h5 h4 hw h40
            rcases hprev with hi0 | ⟨j, p', rfl, hc, hlt3⟩
            · have hz : ¬ (0 : Int) < (i : Int) := by omega
              clear hi0
              go_wp2
              go_roundw
              case rel => exact ⟨i + 1, _, by omega, by go_num, rfl⟩
              case measure => simp [intOf]; omega
            · have hlt4 : ¬ (p : Int) ≤ (p' : Int) := by omega
              go_wp2
              go_roundw
              case rel => exact ⟨(j + 1) + 1, _, by omega, by go_num, rfl⟩
              case measure => simp [intOf]; omega
          · have hk5b : (kind == 5) = false := by simpa using hk5
            by_cases hk4 : kind = 4
            · have h34 := h4 hk4 hpz
              subst hk4
              have hb : ((t[p].toNat : Int) != 34) = false := by simp [h34]
              clear h5 h4 hw h34
              rcases hprev with hi0 | ⟨j, p', rfl, hc, hlt3⟩
              · have hz : ¬ (0 : Int) < (i : Int) := by omega
                clear hi0
                go_wp2
                go_roundw
                case rel => exact ⟨i + 1, _, by omega, by go_num, rfl⟩
                case measure => simp [intOf]; omega
              · have hlt4 : ¬ (p : Int) ≤ (p' : Int) := by omega
                go_wp2
                go_roundw
                case rel => exact ⟨(j + 1) + 1, _, by omega, by go_num, rfl⟩
                case measure => simp [intOf]; omega
            · have hk4b : (kind == 4) = false := by simpa using hk4
              obtain ⟨hn0, hn1, hn2⟩ := hw hk5 hk4
              have m0 : ((text.size : Int) == 0) = false := by rw [beq_eq_false_iff_ne]; omega
              have m1 : ¬ (t.size : Int) - (p : Int) < (text.size : Int) := by omega
              have m2 : IntKind.i64.wrap ((t.size : Int) - (p : Int)) = (t.size : Int) - (p : Int) := by rw [IntKind.wrap_i64]; omega
              have m3 : IntKind.i64.wrap ((p : Int) + (text.size : Int)) = (p : Int) + (text.size : Int) := by rw [IntKind.wrap_i64]; omega
              have m4 : ((p : Int) + (text.size : Int)).toNat = p + text.size := by omega
              have m5 : (p : Int) ≤ (p : Int) + (text.size : Int) := by omega
              have m6 : (p : Int) + (text.size : Int) ≤ (t.size : Int) := by omega
              have m7 : decide ((t.size : Int) - (p : Int) < (text.size : Int)) = false := decide_eq_false (by omega)
              clear h5 h4 hw hk5 hk4 m1
              rcases hprev with hi0 | ⟨j, p', rfl, hc, hlt3⟩
              · have hz : ¬ (0 : Int) < (i : Int) := by omega
                clear hi0
                go_wp2_with fail
                go_quiet (fail)
                go_wp2
                go_roundw
                case rel => exact ⟨i + 1, _, by omega, by go_num, rfl⟩
                case measure => simp [intOf]; omega
              · have hlt4 : ¬ (p : Int) ≤ (p' : Int) := by omega
                go_wp2_with fail
                go_quiet (fail)
                go_wp2
                go_roundw
                case rel => exact ⟨(j + 1) + 1, _, by omega, by go_num, rfl⟩
                case measure => simp [intOf]; omega
        · have haw := HAW.out nn
          go_wp2_with (go_at_call 11; refine haw.mono ?_; rintro e w4 ⟨rfl, hb4⟩)
          go_ret
          exact ⟨rfl, (below_drewN HB3.out nn).trans (hb4.mono HB3.out.size)⟩
    · have hqb : (q != 0) = true := by simpa using hq
      obtain ⟨al, cl, hvl⟩ := ownsRow_len hol
      have haw : Calls Tryd.prog 11 #[] w3 fun e w' => e = .returned (.bool true) ∧ Below w3.heap.size w3 w' := HAW.out 0
      clear hpar hol hb3 hq
      go_wp2_with (go_at_call 11; refine haw.mono ?_; rintro e w4 ⟨rfl, hb4⟩)
      go_ret
      exact ⟨rfl, HB3.out.trans (hb4.mono HB3.out.size)⟩
end Go.Proofs.YtmmohhaolgblkaaDoor

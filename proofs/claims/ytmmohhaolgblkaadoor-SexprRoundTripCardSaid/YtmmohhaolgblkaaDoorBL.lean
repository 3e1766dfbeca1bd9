/- Format of a valid list; the statement on the way back: its walk. -/
import Derived.Test.YtmmohhaolgblkaaDoorBK
import Derived.Test.YtmmohhaolgblkaaDoorAV
import Derived.Test.YtmmohhaolgblkaaDoorBI
namespace Go.Proofs.YtmmohhaolgblkaaDoor
open Go.RowKit

theorem Vd.valid {its : List It} {E : List Nat} (h : Vd its E) : validF its = true := by
  unfold validF; rw [h.chk]; simpa using h.high

set_option maxHeartbeats 2000000 in
set_option maxRecDepth 100000 in
theorem format_any (ao : Option Addr) (g cap : Nat) (m : Int) (its : List It) (E : List Nat) (X : List (List UInt8)) (d : Nat) (ts : List (List UInt8)) (hV : Vd its E) (hW : Wd its E X d) (hts : (trail E 0 its.length).map (fun j => X.getD j []) = ts) (h3 : ts.length ≤ 3) (h2 : ∀ u ∈ ts, u.length ≤ 2000)
    (w : World) (hL : Ls w g its) (hao : its.length ≠ 0 → ao = some ⟨g, 0, none⟩) (hB : 0 < w.heap.size) (hM : w.cell? ⟨0, 0, none⟩ = some (.int .i64 m)) :
    Calls Tryd.prog 19 #[.slice ao its.length cap] w fun e w' => e = .returned (.string ⟨(lines ts).toArray⟩) ∧ Below w.heap.size w w' := by
  have hfew := hL.few
  have hvl := valid_any ao g cap its.length its m w (by omega) rfl hao hL.lt hL.cells (fun x hx => by have := hL.texts x hx; omega) hM
  rw [hV.valid] at hvl
  have HA := Lib.hid hao
  have HW := Lib.hid hW
  have HLs := Lib.hid hL
  have H2 := Lib.hid h2
  have HM := Lib.hid hM
  have hTl : (trail E 0 its.length).length = ts.length := by rw [← hts, List.length_map]
  obtain ⟨T, hT⟩ : ∃ T, trail E 0 its.length = T := ⟨_, rfl⟩
  rw [hT] at hts hTl
  have HH := Lib.hid (And.intro hT (And.intro hts hTl))
  clear hao hW hL h2 hM hts hT hTl hV
  go_enter Tryd.func19, Tryd.ntmps19
  go_wp2_with fail
  refine hvl.mono ?_
  rintro e w1 ⟨rfl, hb1⟩
  have hbn := builder_new w1
  have hWr : Wr w1.heap.size w1.heap.size g m its [] (w1.alloc (.cells #[.pointer none, .slice none 0 0] 59)) :=
    ⟨(HLs.out.below hb1).below ((Below.refl _ _).alloc (Nat.le_refl _) _), Nat.lt_of_lt_of_le HLs.out.lt hb1.size, by have := hb1.size; omega, hbn, by simp, (World.cell?_alloc_past _ _ _ (by show 0 < w1.heap.size; have := hb1.size; omega)).trans ((hb1.cell (p := ⟨0, 0, none⟩) hB).trans HM.out)⟩
  have HWr := Lib.hid hWr
  have HB1 := Lib.hid hb1
  have HBa : Hid (Below w1.heap.size w1 (w1.alloc (.cells #[.pointer none, .slice none 0 0] 59))) := Lib.hid ((Below.refl _ _).alloc (Nat.le_refl _) _)
  clear hbn hWr hb1 hvl
  go_wp2_with fail
  generalize hb : w1.heap.size = b at *
  have HBe := Lib.hid hb
  clear hb
  go_loopw [4] (fun iv wr => ∃ (q e : Nat), q ≤ ts.length ∧ iv = .int .i64 e ∧ e ≤ its.length ∧ T.drop q = trail E e its.length ∧ Wr b b g m its (lines (ts.take q)) wr ∧ Below b w1 wr) (fun iv _ => its.length - (intOf iv).toNat)
  case atStart => exact ⟨0, 0, Nat.zero_le _, rfl, Nat.zero_le _, by rw [List.drop_zero]; exact HH.out.1.symm, by rw [List.take_zero]; exact HWr.out, HBa.out⟩
  case round =>
    obtain ⟨q, e, hq, rfl, he, hdr, hWq, hbel⟩ := hrel
    have HD := Lib.hid hdr
    have HWq := Lib.hid hWq
    have HBl := Lib.hid hbel
    have hlq := lines_len (ts.take q) (fun u hu => H2.out u (List.mem_of_mem_take hu))
    rw [List.length_take] at hlq
    have hlq2 : (lines (ts.take q)).length ≤ 10000 := by
      have : min q ts.length * 2001 ≤ 3 * 2001 := Nat.mul_le_mul_right _ (by omega)
      omega
    clear hdr hWq hbel hlq
    by_cases hlt : e < its.length
    · obtain rfl := HA.out (by omega)
      have hst := trail_step HW.out.up hlt rfl
      have hqe : T[q]? = some e := by
        have := congrArg (fun l => l[0]?) (HD.out.trans hst)
        simpa using this
      have hql : q < ts.length := by
        have := (List.getElem?_eq_some_iff.1 hqe).1
        rw [HH.out.2.2] at this; exact this
      have hmT : e ∈ trail E 0 its.length := by rw [HH.out.1]; exact List.mem_of_getElem? hqe
      have huq : ts[q]? = some (X.getD e []) := by rw [← HH.out.2.1, List.getElem?_map, hqe]; rfl
      have hul := H2.out _ (List.mem_of_getElem? huq)
      have hTr := HW.out.roots e hmT
      have hwr := write_any b b g cap m its E X HW.out.up d e hTr.1 (lines (ts.take q)) wr (by omega) HWq.out
      have HLn := Lib.hid (lines_take ts q _ huq)
      have hup := HW.out.up e hlt
      have hle := hTr.2
      have HD2 : Hid (T.drop (q + 1) = trail E (E.getD e 0) its.length) := Lib.hid (by rw [← List.drop_drop, HD.out, hst]; rfl)
      clear hst hqe hmT huq hTr
      generalize X.getD e [] = t at *
      generalize E.getD e 0 = f at *
      have hal : (lines (ts.take q) ++ t).length ≤ 1000000 := by rw [List.length_append]; omega
      go_wp2_with fail
      refine hwr.mono ?_
      rintro e w2 ⟨rfl, hd2, hb2⟩
      have hW2 := HWq.out.step hb2 hd2
      have hps := put_any hW2 10 10 (by decide) hal
      have HB2 := Lib.hid (HBl.out.trans hb2)
      clear hwr hd2 hb2 hW2
      go_wp2_with fail
      refine hps.mono ?_
      rintro e w3 ⟨rfl, hW3, hb3⟩
      have HW3 := Lib.hid hW3
      have HB3 := Lib.hid (HB2.out.trans hb3)
      clear hps hW3 hb3
      go_wp2_with fail
      go_roundw
      case rel => exact ⟨q + 1, f, hql, rfl, hle, HD2.out, by rw [HLn.out, ← List.append_assoc]; exact HW3.out, HB3.out⟩
      case measure => simp [intOf]; omega
    · have HTk : Hid (ts.take q = ts) := Lib.hid (by
        have h1 := HD.out
        rw [trail_stop hlt] at h1
        have := congrArg List.length h1
        rw [List.length_drop, HH.out.2.2] at this
        exact List.take_of_length_le (by simp at this; omega))
      have hst := Tryd.Builder_String_any b b (lines (ts.take q)) wr HWq.out.bd HWq.out.bw
      go_wp2_with fail
      refine hst.mono ?_
      rintro e w2 ⟨rfl, hb2⟩
      have HB2 := Lib.hid (HBl.out.trans hb2)
      clear hst hb2
      go_wp2_with fail
      go_ret
      exact ⟨ret_str (by rw [HTk.out]), HB1.out.trans (HB2.out.mono (by have := HB1.out.size; have := HBe.out; omega))⟩

theorem Same.split : ∀ {a b c : List It}, Same (a ++ b) c → ∃ a' b', c = a' ++ b' ∧ Same a a' ∧ Same b b'
  | [], _, c, h => ⟨[], c, rfl, trivial, h⟩
  | x :: a, b, y :: c, ⟨h1, h2⟩ => by
    obtain ⟨a', b', rfl, h3, h4⟩ := Same.split h2
    exact ⟨y :: a', b', rfl, ⟨h1, h3⟩, h4⟩
  | _ :: _, _, [], h => h.elim
theorem For.same {d : Nat} {its : List It} {ts : List (List UInt8)} (h : For d its ts) : ∀ its', Same its its' → For d its' ts := by
  induction h with
  | nil d => intro its' h; cases its' with
    | nil => exact .nil d
    | cons _ _ => exact h.elim
  | @leaf d kind pos text its ts hk h ih =>
    intro its' hS
    cases its' with
    | nil => exact hS.elim
    | cons y r =>
      obtain ⟨⟨e1, e2, e3⟩, hS2⟩ := hS
      obtain ⟨yk, yt, yn, yp⟩ := y
      simp only at e1 e2 e3
      subst e1 e2 e3
      exact .leaf hk (ih r hS2)
  | @list d pos sub its us ts hs h ih1 ih2 =>
    intro its' hS
    cases its' with
    | nil => exact hS.elim
    | cons y r =>
      obtain ⟨⟨e1, e2, e3⟩, hS2⟩ := hS
      obtain ⟨yk, yt, yn, yp⟩ := y
      simp only at e1 e2 e3
      subst e1 e2 e3
      obtain ⟨a', b', rfl, h3, h4⟩ := Same.split hS2
      exact .list (ih1 a' h3) (ih2 b' h4)
theorem Same.get : ∀ {a b : List It}, Same a b → ∀ (i : Nat) (x y : It), a[i]? = some x → b[i]? = some y → Eqv false x y
  | x :: a, y :: b, ⟨h1, h2⟩, 0, x', y', hx, hy => by
    simp at hx hy; subst hx hy
    exact ⟨h1.1, h1.2.1, h1.2.2, fun h => by cases h⟩
  | _ :: _, _ :: _, ⟨_, h2⟩, i + 1, x', y', hx, hy => Same.get h2 i x' y' (by simpa using hx) (by simpa using hy)
  | [], [], _, i, x, y, hx, _ => by simp at hx
  | [], _ :: _, h, _, _, _, _, _ => h.elim
  | _ :: _, [], h, _, _, _, _, _ => h.elim
end Go.Proofs.YtmmohhaolgblkaaDoor

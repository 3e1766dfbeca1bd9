/- The reference's FormatItems over a valid list. -/
import Derived.Test.YtmmohhaolgblkaaDoorAU
namespace Go.Proofs.YtmmohhaolgblkaaDoor
open Go.RowKit

/-- each text on a line of its own -/
def lines (ts : List (List UInt8)) : List UInt8 := ts.flatMap fun t => t ++ [10]
theorem lines_take (ts : List (List UInt8)) (q : Nat) (t : List UInt8) (h : ts[q]? = some t) : lines (ts.take (q + 1)) = lines (ts.take q) ++ (t ++ [10]) := by
  rw [List.take_add_one, h]; simp [lines]
theorem lines_len (ts : List (List UInt8)) (h : ∀ u ∈ ts, u.length ≤ 2000) : (lines ts).length ≤ ts.length * 2001 := by
  induction ts with
  | nil => simp [lines]
  | cons t r ih =>
    have e : lines (t :: r) = (t ++ [10]) ++ lines r := rfl
    have := ih (fun u hu => h u (by simp [hu]))
    have := h t (by simp)
    rw [e]
    simp only [List.length_append, List.length_cons, List.length_nil, Nat.succ_mul]
    omega

set_option maxHeartbeats 1000000 in
set_option maxRecDepth 100000 in
theorem formatItems_any (ao : Option Addr) (g cap : Nat) (its : List It) (E : List Nat) (X : List (List UInt8)) (d : Nat) (ts : List (List UInt8)) (hW : Wd its E X d) (hts : (trail E 0 its.length).map (fun j => X.getD j []) = ts) (h3 : ts.length ≤ 3) (h2 : ∀ u ∈ ts, u.length ≤ 2000)
    (w : World) (hL : Ls w g its) (hao : its.length ≠ 0 → ao = some ⟨g, 0, none⟩) :
    Calls Tryd.prog 13 #[.slice ao its.length cap] w fun e w' => e = .returned (.string ⟨(lines ts).toArray⟩) ∧ Below w.heap.size w w' := by
  have hrt := refRoots_any ao g cap its E X d hW w hL hao
  have HA := Lib.hid hao
  have HW := Lib.hid hW
  have HLs := Lib.hid hL
  have H2 := Lib.hid h2
  have hfew := hL.few
  have hll : (trail E 0 its.length).length = ts.length := by rw [← hts, List.length_map]
  have hmem0 : ∀ j ∈ trail E 0 its.length, j < its.length := fun j hj => (trail_mem hW.up its.length 0 j (by omega) hj).2
  have HM := Lib.hid hmem0
  obtain ⟨T, hT⟩ : ∃ T, trail E 0 its.length = T := ⟨_, rfl⟩
  have HT := Lib.hid hT
  rw [hT] at hrt hts hll HM
  have HTS := Lib.hid hts
  clear hao hW hL h2 hts hT hmem0
  go_enter Tryd.func13, Tryd.ntmps13
  go_wp2_with fail
  refine hrt.mono ?_
  rintro e w1 ⟨v, rfl, hown, hb1⟩
  obtain ⟨av, cv, hv⟩ := ownsRow_len hown
  subst hv
  have HO := Lib.hid hown
  have HO1 := Lib.hid hown.lt
  have HB1 := Lib.hid hb1
  clear hrt hown hb1
  rw [hll] at HO HO1 ⊢
  have HLl := Lib.hid hll
  clear hll
  go_wp2_with fail
  go_loopw [3, 5] (fun sv jv wr => ∃ q : Nat, q ≤ ts.length ∧ jv = .int .i64 q ∧ sv = .string ⟨(lines (ts.take q)).toArray⟩ ∧ Below w1.heap.size w1 wr) (fun _ jv _ => ts.length - (intOf jv).toNat)
  case atStart => exact ⟨0, Nat.zero_le _, rfl, by rw [List.take_zero]; rfl, Below.refl _ _⟩
  case round =>
    obtain ⟨q, hq, rfl, rfl, hbel⟩ := hrel
    have HBl := Lib.hid hbel
    have HBw := Lib.hid (HB1.out.trans (hbel.mono HB1.out.size))
    have hlq := lines_len (ts.take q) (fun u hu => H2.out u (List.mem_of_mem_take hu))
    rw [List.length_take] at hlq
    have hlq2 : (lines (ts.take q)).length ≤ 10000 := by
      have : min q ts.length * 2001 ≤ 3 * 2001 := Nat.mul_le_mul_right _ (by omega)
      omega
    clear hbel hlq
    by_cases hlt : q < ts.length
    · obtain ⟨e, hqe⟩ : ∃ e, T[q]? = some e := ⟨_, List.getElem?_eq_getElem (by rw [HLl.out]; exact hlt)⟩
      have hmT := List.mem_of_getElem? hqe
      have huq : ts[q]? = some (X.getD e []) := by rw [← HTS.out, List.getElem?_map, hqe]; rfl
      have hul := H2.out _ (List.mem_of_getElem? huq)
      have hel := HM.out e hmT
      obtain rfl := HA.out (by omega)
      have hfi := formatItem_any g cap its E X HW.out.up d e (HW.out.roots e (by rw [HT.out]; exact hmT)).1 HW.out.deep (by omega) wr (HLs.out.below HBw.out)
      have HLn := Lib.hid (lines_take ts q _ huq)
      obtain ⟨gk, ck, hvk, hgk, _⟩ := ownsRow_shape HO.out (by omega)
      cases hvk
      have hcq : wr.cell? ⟨gk, q, none⟩ = some (.int .i64 e) := by
        refine (HBl.out.cell (p := ⟨gk, q, none⟩) (HO1.out gk rfl).2).trans ?_
        rw [HO.out.cellAt q (by omega)]; simp [ints, hqe]
      clear hqe huq hmT
      generalize X.getD e [] = t at *
      go_wp2_with (go_at_call 28; refine hfi.mono ?_; rintro e w2 ⟨rfl, hb2⟩)
      go_roundw
      case rel => exact ⟨q + 1, by omega, by go_num, by
        rw [HLn.out]
        exact congrArg Value.string (by rw [show (⟨#[10]⟩ : ByteArray) = ⟨([10] : List UInt8).toArray⟩ from rfl, ba_app, ba_app]), HBl.out.trans (hb2.mono HBl.out.size)⟩
      case measure => simp [intOf]; omega
    · have HTk : Hid (ts.take q = ts) := Lib.hid (List.take_of_length_le (by omega))
      go_wp2
      go_ret
      exact ⟨ret_str (by rw [HTk.out]), HBw.out⟩
end Go.Proofs.YtmmohhaolgblkaaDoor

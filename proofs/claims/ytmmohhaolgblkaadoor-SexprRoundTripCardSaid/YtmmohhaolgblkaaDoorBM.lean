/- The statement on the way back: its walk. -/
import Derived.Test.YtmmohhaolgblkaaDoorBL
namespace Go.Proofs.YtmmohhaolgblkaaDoor
open Go.RowKit

/-- Format of a list that lies somewhere -/
theorem formatAt (m : Int) (its : List It) (ts : List (List UInt8)) (hF : For 4 its ts) (h3 : ts.length ≤ 3) (hfew : its.length ≤ 363) (h2 : ∀ u ∈ ts, u.length ≤ 2000) (htx : ∀ x ∈ its, x.text.size ≤ 100) (ao : Option Addr) (g cap : Nat)
    (w : World) (hA : Lies w ao g its.length its) (hB : 0 < w.heap.size) (hM : w.cell? ⟨0, 0, none⟩ = some (.int .i64 m)) :
    Calls Tryd.prog 19 #[.slice ao its.length cap] w fun e w' => e = .returned (.string ⟨(lines ts).toArray⟩) ∧ Below w.heap.size w w' := by
  obtain ⟨_, hA, hg, hI⟩ := hA
  obtain ⟨E, X, hV, hL, hT, hX⟩ := hF.vt (by omega)
  exact format_any ao g cap m its E X 4 ts hV ⟨hV.up, hT, by omega⟩ hX h3 h2 w ⟨hI, hg, by omega, fun x hx => by have := htx x hx; omega⟩ hA hB hM
theorem Lies.below {w w' : World} {ao : Option Addr} {g n : Nat} {l : List It} (h : Lies w ao g n l) (hb : Below w.heap.size w w') : Lies w' ao g n l :=
  ⟨h.1, h.2.1, Nat.lt_of_lt_of_le h.2.2.1 hb.size, fun i x hx j hj => (hb.cell (p := ⟨g, i * 4 + j, none⟩) h.2.2.1).trans (h.2.2.2 i x hx j hj)⟩
theorem Same.texts : ∀ {a b : List It}, Same a b → (∀ x ∈ a, x.text.size ≤ 100) → ∀ y ∈ b, y.text.size ≤ 100
  | [], [], _, _, y, hy => by cases hy
  | x :: a, z :: b, ⟨h1, h2⟩, h, y, hy => by
    rw [List.mem_cons] at hy
    rcases hy with rfl | hy
    · rw [← h1.2.1]; exact h x (by simp)
    · exact Same.texts h2 (fun x hx => h x (by simp [hx])) y hy
  | [], _ :: _, h, _, _, _ => h.elim
  | _ :: _, [], h, _, _, _ => h.elim

set_option maxHeartbeats 2000000 in
set_option maxRecDepth 100000 in
theorem roundTrip_any (ao : Option Addr) (len cap : Nat) (m : Int) (w : World) (h : ArgI w ao len cap) (hB : 0 < w.heap.size) (hM : w.cell? ⟨0, 0, none⟩ = some (.int .i64 m)) :
    Calls Tryd.prog 6 #[.slice ao len cap] w fun e w' => e = .returned (.bool true) ∧ Below w.heap.size w w' := by
  have hsq := sequence_any ao len cap w h
  clear h
  go_enter Tryd.func6, Tryd.ntmps6
  go_wp2_with fail
  refine hsq.mono ?_
  rintro e w1 ⟨v, its, ts, rfl, hF, h3, hfew, h2, htx, hown, hb1⟩
  have hB1 : 0 < w1.heap.size := by have := hb1.size; omega
  obtain ⟨a1, g1, c1, rfl, hL1⟩ := lies_of hown hB1
  have hM1 := (hb1.cell (p := ⟨0, 0, none⟩) hB).trans hM
  have hll := lines_len ts h2
  obtain ⟨its', hS, hPt⟩ := hF.parse (by omega) (by show (lines ts).length ≤ 65536; omega)
  have hPt2 : parseT ⟨(lines ts).toArray⟩ = (its', 0, 0) := hPt
  have hfm := formatAt m its ts hF h3 hfew h2 htx a1 g1 c1 w1 hL1 hB1 hM1
  have HF := Lib.hid (And.intro hF (And.intro h2 (And.intro htx hS)))
  have HP := Lib.hid hPt2
  have HL1 := Lib.hid hL1
  have HB1 := Lib.hid hb1
  have HM1 := Lib.hid hM1
  clear hsq hF h2 htx hown hb1 hM1 hM hll hS hPt hPt2 hL1
  go_wp2_with fail
  refine hfm.mono ?_
  rintro e w2 ⟨rfl, hb2⟩
  have HB2 := Lib.hid (HB1.out.trans (hb2.mono HB1.out.size))
  have hB2 : 0 < w2.heap.size := by have := hb2.size; omega
  have HM2 := Lib.hid ((hb2.cell (p := ⟨0, 0, none⟩) hB1).trans HM1.out)
  have HL2 := Lib.hid (HL1.out.below hb2)
  have hpar := parse_any m ⟨(lines ts).toArray⟩ w2 hB2 HM2.out
  rw [HP.out] at hpar
  unfold ParsePost at hpar
  simp only at hpar
  generalize hgs : (⟨(lines ts).toArray⟩ : ByteArray) = s at *
  have HGS := Lib.hid hgs
  clear hgs
  clear hfm hb2 HB1 HM1 HL1
  go_wp2_with fail
  refine hpar.mono ?_
  rintro e w3 ⟨vp, rfl, hop, hb3⟩
  have hB3 : 0 < w3.heap.size := by have := hb3.size; omega
  obtain ⟨a3, g3, c3, rfl, hL3⟩ := lies_of hop hB3
  have hlen : its'.length = its.length := (Same.len HF.out.2.2.2).symm
  have heq := equal_any false a1 a3 g1 g3 c1 c3 its.length its its' w3 (by omega) (HL2.out.below hb3) (by rw [← hlen]; exact hL3) (HF.out.2.2.2.get)
  have HB3 := Lib.hid (HB2.out.trans (hb3.mono HB2.out.size))
  have HM3 := Lib.hid ((hb3.cell (p := ⟨0, 0, none⟩) hB2).trans HM2.out)
  have HL3 := Lib.hid hL3
  have HLen := Lib.hid hlen
  rw [hlen]
  clear hpar hop hb3 hL3 hlen HB2 HM2 HL2
  go_wp2_with fail
  refine heq.mono ?_
  rintro e w4 ⟨rfl, hb4⟩
  have hB4 : 0 < w4.heap.size := by have := hb4.size; omega
  have HB4 := Lib.hid (HB3.out.trans (hb4.mono HB3.out.size))
  have HM4 := Lib.hid ((hb4.cell (p := ⟨0, 0, none⟩) hB3).trans HM3.out)
  have hfm := formatAt m its' ts (HF.out.1.same its' HF.out.2.2.2) h3 (by have := HLen.out; omega) HF.out.2.1 (HF.out.2.2.2.texts HF.out.2.2.1) a3 g3 c3 w4 (HL3.out.below hb4) hB4 HM4.out
  rw [HLen.out, HGS.out] at hfm
  clear heq hb4 HB3 HM3 HL3
  go_wp2_with fail
  refine hfm.mono ?_
  rintro e w5 ⟨rfl, hb5⟩
  have HB5 := Lib.hid (HB4.out.trans (hb5.mono HB4.out.size))
  have hB5 : 0 < w5.heap.size := by have := hb5.size; omega
  have haw := awake_any m w5 hB5 ((hb5.cell (p := ⟨0, 0, none⟩) hB4).trans HM4.out)
  have hss : (s.toList == s.toList) = true := by simp
  clear hfm hb5 HB4 HM4
  go_wp2_with (go_at_call 11; refine haw.mono ?_; rintro e w6 ⟨rfl, hb6⟩)
  go_ret
  exact ⟨rfl, HB5.out.trans (hb6.mono HB5.out.size)⟩
end Go.Proofs.YtmmohhaolgblkaaDoor

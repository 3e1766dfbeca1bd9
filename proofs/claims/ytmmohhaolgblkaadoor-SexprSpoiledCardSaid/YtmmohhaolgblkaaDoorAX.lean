/- The statement on spoiled texts: its walk. -/
import Derived.Test.YtmmohhaolgblkaaDoorAV
import Derived.Test.YtmmohhaolgblkaaDoorAW
import Derived.Test.YtmmohhaolgblkaaDoorAE
namespace Go.Proofs.YtmmohhaolgblkaaDoor
open Go.RowKit

/-- the text of a list that the choices make -/
theorem seqText_any (w1 w2 : World) (v : Value) (its : List It) (ts : List (List UInt8)) (hF : For 4 its ts) (h3 : ts.length ≤ 3) (hfew : its.length ≤ 363) (h2 : ∀ u ∈ ts, u.length ≤ 2000) (htx : ∀ x ∈ its, x.text.size ≤ 100)
    (hown : w2.ownsRow w1.heap.size 31 4 v its.length (flat its)) (h0 : 0 < w2.heap.size) :
    Calls Tryd.prog 13 #[v] w2 fun e w' => e = .returned (.string ⟨(lines ts).toArray⟩) ∧ Below w2.heap.size w2 w' := by
  obtain ⟨ao, g, cap, rfl, hl, hA, hg, hI⟩ := lies_of hown h0
  obtain ⟨E, X, hV, hL, hT, hX⟩ := hF.vt (by omega)
  exact formatItems_any ao g cap its E X 4 ts ⟨hV.up, hT, by omega⟩ hX h3 h2 w2 ⟨hI, hg, by omega, fun x hx => by have := htx x hx; omega⟩ hA

set_option maxHeartbeats 2000000 in
set_option maxRecDepth 100000 in
theorem spoiled_any (ao : Option Addr) (len cap : Nat) (at0 how : Int) (c : UInt8) (m : Int) (w : World) (h : ArgI w ao len cap) (hB : 0 < w.heap.size) (hM : w.cell? ⟨0, 0, none⟩ = some (.int .i64 m)) :
    Calls Tryd.prog 4 #[.slice ao len cap, .int .i64 at0, .int .u8 c.toNat, .int .i64 how] w fun e w' => e = .returned (.bool true) ∧ Below w.heap.size w w' := by
  have hsq := sequence_any ao len cap w h
  clear h
  go_enter Tryd.func4, Tryd.ntmps4
  go_wp2_with fail
  refine hsq.mono ?_
  rintro e w1 ⟨v, its, ts, rfl, hF, h3, hfew, h2, htx, hown, hb1⟩
  have hft := seqText_any w w1 v its ts hF h3 hfew h2 htx hown (by have := hb1.size; omega)
  have hll := lines_len ts h2
  have hM1 := (hb1.cell (p := ⟨0, 0, none⟩) hB).trans hM
  have HB1 := Lib.hid hb1
  have HM1 := Lib.hid hM1
  have hB1 : 0 < w1.heap.size := by have := hb1.size; omega
  have hsz : (⟨(lines ts).toArray⟩ : ByteArray).size ≤ 100000 := by
    show (lines ts).toArray.size ≤ 100000
    simp; omega
  clear hsq hF h2 htx hown hb1 hM1 hM hll
  generalize (⟨(lines ts).toArray⟩ : ByteArray) = s at *
  go_wp2_with fail
  refine hft.mono ?_
  rintro e w2 ⟨rfl, hb2⟩
  have HB2 := Lib.hid (HB1.out.trans (hb2.mono HB1.out.size))
  have hB2 : 0 < w2.heap.size := by have := hb2.size; omega
  have hM2 := (hb2.cell (p := ⟨0, 0, none⟩) hB1).trans HM1.out
  have HM2 := Lib.hid hM2
  have hp := parses_any m s w2 hB2 hM2
  clear hft hb2 hM2 HB1 HM1
  go_wp2_with fail
  refine hp.mono ?_
  rintro e w3 ⟨rfl, hb3⟩
  have HB3 := Lib.hid (HB2.out.trans (hb3.mono HB2.out.size))
  have hB3 : 0 < w3.heap.size := by have := hb3.size; omega
  have HM3 := Lib.hid ((hb3.cell (p := ⟨0, 0, none⟩) hB2).trans HM2.out)
  have hsp := spoil_any s at0 how c w3 hsz
  clear hp hb3 HB2 HM2
  go_wp2_with fail
  refine hsp.mono ?_
  rintro e w4 ⟨⟨t, rfl⟩, hb4⟩
  have HB4 := Lib.hid (HB3.out.trans (hb4.mono HB3.out.size))
  have hB4 : 0 < w4.heap.size := by have := hb4.size; omega
  have HM4 := Lib.hid ((hb4.cell (p := ⟨0, 0, none⟩) hB3).trans HM3.out)
  have hp := parses_any m t w4 hB4 HM4.out
  clear hsp hb4 HB3 HM3
  go_wp2_with fail
  refine hp.mono ?_
  rintro e w5 ⟨rfl, hb5⟩
  have HB5 := Lib.hid (HB4.out.trans (hb5.mono HB4.out.size))
  have hB5 : 0 < w5.heap.size := by have := hb5.size; omega
  have HM5 := Lib.hid ((hb5.cell (p := ⟨0, 0, none⟩) hB4).trans HM4.out)
  clear hp hb5 HB4 HM4
  have hx0 : (0 : Int) ≤ (c.toNat : Int) % 9 := by omega
  have hx1 : (c.toNat : Int) % 9 < 9 := by omega
  go_wp2_with fail
  refine (spoil_any s at0 how _ w5 hsz).mono ?_
  rintro e w6 ⟨⟨t2, rfl⟩, hb6⟩
  have HB6 := Lib.hid (HB5.out.trans (hb6.mono HB5.out.size))
  have hB6 : 0 < w6.heap.size := by have := hb6.size; omega
  have HM6 := Lib.hid ((hb6.cell (p := ⟨0, 0, none⟩) hB5).trans HM5.out)
  have hp := parses_any m t2 w6 hB6 HM6.out
  clear hb6 HB5 HM5
  go_wp2_with fail
  refine hp.mono ?_
  rintro e w7 ⟨rfl, hb7⟩
  have HB7 := Lib.hid (HB6.out.trans (hb7.mono HB6.out.size))
  have hB7 : 0 < w7.heap.size := by have := hb7.size; omega
  have haw := awake_any m w7 hB7 ((hb7.cell (p := ⟨0, 0, none⟩) hB6).trans HM6.out)
  clear hp hb7 HB6 HM6
  go_wp2_with fail
  refine haw.mono ?_
  rintro e w8 ⟨rfl, hb8⟩
  have HB8 := Lib.hid (HB7.out.trans (hb8.mono HB7.out.size))
  clear haw hb8 HB7
  go_wp2_with fail
  go_ret
  exact ⟨rfl, HB8.out⟩
end Go.Proofs.YtmmohhaolgblkaaDoor

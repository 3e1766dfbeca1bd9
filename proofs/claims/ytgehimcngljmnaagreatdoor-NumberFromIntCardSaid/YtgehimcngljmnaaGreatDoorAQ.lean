/- number.Add of package number. -/
import Derived.Test.YtgehimcngljmnaaGreatDoorAP
namespace Go.Proofs.YtgehimcngljmnaaGreatDoor
open Go.RowKit Nmx

section
set_option maxRecDepth 100000
set_option maxHeartbeats 4000000
theorem binary_add (s t : ByteArray) (p q r : Rat) (w : World) (hs : s.size ≤ 1000000) (ht : t.size ≤ 1000000) (h : Env w) (hp : ratF s.data.toList = some p) (hq : ratF t.data.toList = some q) (hg : GcdAt s.data.toList) (hg' : GcdAt t.data.toList)
    (hf : ∀ x y W, RV W x p → RV W y q → Calls Tryz.prog 82 #[x, y] W (GetsQ r W)) (hsz : (decI r.num).length + (decI r.den).length ≤ 1000000000) :
    Calls Tryz.prog 28 #[.string s, .string t] w fun e w' => e = .returned (.string ⟨(textQ r).toArray⟩) ∧ Below w.heap.size w w' := by
  have hpa := pair_any s t w hs ht h hg hg'
  rw [hp, hq] at hpa
  have HE := Lib.hid h
  clear h hg hg' hp hq hs ht
  go_enter Tryz.func28, Tryz.ntmps28
  go_wp2_with fail
  go_enter Tryz.func81, Tryz.ntmps81
  go_wp2_with fail
  refine hpa.mono ?_
  rintro e w1 ⟨v1, v2, rfl, hv1, hv2, hb1⟩
  have HV1 := Lib.hid hv1
  have HV2 := Lib.hid hv2
  have HB1 := Lib.hid hb1
  have hff := fun (W : World) (hW : Below w1.heap.size w1 W) => hf v1 v2 W (HV1.out.far hW) (HV2.out.far hW)
  obtain ⟨s1, b1, a1, n1, c1, s2, b2, a2, n2, c2, rfl, -, -⟩ := rv_form hv1
  obtain ⟨s3, b3, a3, n3, c3, s4, b4, a4, n4, c4, rfl, -, -⟩ := rv_form hv2
  have HB0 := Lib.hid (below2 w1 (.cells #[.int .i64 s1, .bool b1, .slice a1 n1 c1, .int .i64 s2, .bool b2, .slice a2 n2 c2] 63) (.cells #[.int .i64 s3, .bool b3, .slice a3 n3 c3, .int .i64 s4, .bool b4, .slice a4 n4 c4] 63))
  have hff0 := hff _ HB0.out
  clear hv1 hv2 hb1 hpa hf hff
  go_wp2_with fail
  refine hff0.mono ?_
  rintro e w2 ⟨v3, rfl, hv3, hb3⟩
  have HB2 := Lib.hid (HB1.out.trans ((HB0.out.trans (hb3.mono HB0.out.size)).mono HB1.out.size))
  have hst := ratString_any v3 r w2 hv3 (HE.out.far HB2.out) hsz
  clear hv3 hb3 hff0
  go_wp2_with fail
  refine hst.mono ?_
  rintro e w3 ⟨rfl, hb4⟩
  have HB3 := Lib.hid (HB2.out.trans (hb4.mono HB2.out.size))
  clear hb4 hst
  go_wp2
  go_ret
  exact ⟨rfl, HB3.out⟩
end
end Go.Proofs.YtgehimcngljmnaaGreatDoor

/- Int.Cmp of package exact; QuoRem of small integers. -/
import Derived.Test.YtgehimcngljmnaaGreatDoorN
namespace Go.Proofs.YtgehimcngljmnaaGreatDoor
open Go.RowKit Nmx

def cmpI (a b : Int) : Int := if a < b then -1 else if b < a then 1 else 0
theorem cmpI_words {a b : Int} {m n : Nat} (hm : m = a.natAbs) (hn : n = b.natAbs) : (a < 0 → b < 0 → cmpI a b = cmpN n m) ∧ (¬ a < 0 → ¬ b < 0 → cmpI a b = cmpN m n) ∧ (a < 0 → ¬ b < 0 → cmpI a b = -1) ∧ (¬ a < 0 → b < 0 → cmpI a b = 1) := by
  unfold cmpI cmpN
  refine ⟨fun h1 h2 => ?_, fun h1 h2 => ?_, fun h1 h2 => ?_, fun h1 h2 => ?_⟩ <;> grind

section
set_option maxRecDepth 100000
set_option maxHeartbeats 4000000
theorem below2 (w : World) (o o' : Obj) : Below w.heap.size w ((w.alloc o).alloc o') := ((Below.refl w.heap.size w).alloc (Nat.le_refl _) _).alloc (by simp) _
theorem cmp_ss {za zb : Int} (w : World) (hza : Small za) (hzb : Small zb) :
    Calls Tryz.prog 135 #[.agg #[.int .i64 za, .bool false, .slice none 0 0], .agg #[.int .i64 zb, .bool false, .slice none 0 0]] w fun e w' => e = .returned (.int .i64 (cmpI za zb)) ∧ Below w.heap.size w w' := by
  have kq0 := mag_eql0
  obtain ⟨q1, q2⟩ := hza
  obtain ⟨q3, q4⟩ := hzb
  rcases Int.lt_trichotomy za zb with h | h | h
  · have HR : Hid (cmpI za zb = -1) := Lib.hid (by unfold cmpI; rw [if_pos h])
    go_enter Tryz.func135, Tryz.ntmps135
    go_wp2
    go_ret
    exact ⟨ret_int HR.out.symm, below2 w _ _⟩
  · have HR : Hid (cmpI za zb = 0) := Lib.hid (by unfold cmpI; rw [if_neg (by omega), if_neg (by omega)])
    subst h
    go_enter Tryz.func135, Tryz.ntmps135
    go_wp2
    go_ret
    exact ⟨ret_int HR.out.symm, below2 w _ _⟩
  · have HR : Hid (cmpI za zb = 1) := Lib.hid (by unfold cmpI; rw [if_neg (by omega), if_pos h])
    have h1 : ¬ za < zb := by omega
    go_enter Tryz.func135, Tryz.ntmps135
    go_wp2
    go_ret
    exact ⟨ret_int HR.out.symm, below2 w _ _⟩
theorem cmp_bbtt {za zb : Int} {b1 b2 : Bool} {ad1 ad2 : Addr} {n1 c1 n2 c2 : Nat} (w : World) (ha : IV w (.agg #[.int .i64 0, .bool b1, .slice (some ad1) n1 c1]) za) (hb : IV w (.agg #[.int .i64 0, .bool b2, .slice (some ad2) n2 c2]) zb) (hda : za < 0) (hdb : zb < 0) :
    Calls Tryz.prog 135 #[.agg #[.int .i64 0, .bool b1, .slice (some ad1) n1 c1], .agg #[.int .i64 0, .bool b2, .slice (some ad2) n2 c2]] w fun e w' => e = .returned (.int .i64 (cmpI za zb)) ∧ Below w.heap.size w w' := by
  have kq := mag_eql
  have kq0 := mag_eql0
  have hpa := fun (W' : World) (hB : Below w.heap.size w W') => parts_any _ _ W' (ha.far hB)
  have hpb := fun (W' : World) (hB : Below w.heap.size w W') => parts_any _ _ W' (hb.far hB)
  clear ha hb
  have HAA := Lib.hid hda
  have HBB := Lib.hid hdb
  have hda' : decide (za < 0) = true := by simpa using hda
  have hdb' : decide (zb < 0) = true := by simpa using hdb
  clear hda hdb
  go_enter Tryz.func135, Tryz.ntmps135
  go_wp2_with fail
  refine (hpa _ (below2 w _ _)).mono ?_
  rintro e w1 ⟨va', la, rfl, hva, hna, hla, -, hb1⟩
  obtain ⟨hc1, hf1⟩ := bcell hb1
  have hz1 : w.heap.size + 1 < w1.heap.size := by have := hb1.size; simp at this; omega
  have HB1 := Lib.hid ((below2 w _ _).trans (hb1.mono (by simp; omega)))
  have HVA := Lib.hid hva
  have HNA := Lib.hid hna
  have HLA := Lib.hid hla
  clear hb1 hva hna hla hpa
  go_wp2_with fail
  refine (hpb _ HB1.out).mono ?_
  rintro e w2 ⟨vb', lb, rfl, hvb, hnb, hlb, -, hb2⟩
  have HB2 := Lib.hid (HB1.out.trans (hb2.mono HB1.out.size))
  have HVA2 := Lib.hid (HVA.out.far hb2)
  have HVB := Lib.hid hvb
  have HNB := Lib.hid hnb
  have HLB := Lib.hid hlb
  clear hb2 hvb hnb hlb hpb HB1 HVA
  have hcmp := cmpWords_v _ _ lb la w2 HVB.out HVA2.out HNB.out HNA.out
  rw [← (cmpI_words HLA.out HLB.out).1 (by have := HAA.out; omega) (by have := HBB.out; omega)] at hcmp
  go_wp2_with fail
  refine hcmp.mono ?_
  rintro e w3 ⟨rfl, hb3⟩
  go_wp2
  go_ret
  exact ⟨rfl, HB2.out.trans (hb3.mono HB2.out.size)⟩
theorem cmp_bbff {za zb : Int} {b1 b2 : Bool} {ad1 ad2 : Addr} {n1 c1 n2 c2 : Nat} (w : World) (ha : IV w (.agg #[.int .i64 0, .bool b1, .slice (some ad1) n1 c1]) za) (hb : IV w (.agg #[.int .i64 0, .bool b2, .slice (some ad2) n2 c2]) zb) (hda : ¬ za < 0) (hdb : ¬ zb < 0) :
    Calls Tryz.prog 135 #[.agg #[.int .i64 0, .bool b1, .slice (some ad1) n1 c1], .agg #[.int .i64 0, .bool b2, .slice (some ad2) n2 c2]] w fun e w' => e = .returned (.int .i64 (cmpI za zb)) ∧ Below w.heap.size w w' := by
  have kq := mag_eql
  have kq0 := mag_eql0
  have hpa := fun (W' : World) (hB : Below w.heap.size w W') => parts_any _ _ W' (ha.far hB)
  have hpb := fun (W' : World) (hB : Below w.heap.size w W') => parts_any _ _ W' (hb.far hB)
  clear ha hb
  have HAA := Lib.hid hda
  have HBB := Lib.hid hdb
  have hda' : decide (za < 0) = false := by simpa using hda
  have hdb' : decide (zb < 0) = false := by simpa using hdb
  clear hda hdb
  go_enter Tryz.func135, Tryz.ntmps135
  go_wp2_with fail
  refine (hpa _ (below2 w _ _)).mono ?_
  rintro e w1 ⟨va', la, rfl, hva, hna, hla, -, hb1⟩
  obtain ⟨hc1, hf1⟩ := bcell hb1
  have hz1 : w.heap.size + 1 < w1.heap.size := by have := hb1.size; simp at this; omega
  have HB1 := Lib.hid ((below2 w _ _).trans (hb1.mono (by simp; omega)))
  have HVA := Lib.hid hva
  have HNA := Lib.hid hna
  have HLA := Lib.hid hla
  clear hb1 hva hna hla hpa
  go_wp2_with fail
  refine (hpb _ HB1.out).mono ?_
  rintro e w2 ⟨vb', lb, rfl, hvb, hnb, hlb, -, hb2⟩
  have HB2 := Lib.hid (HB1.out.trans (hb2.mono HB1.out.size))
  have HVA2 := Lib.hid (HVA.out.far hb2)
  have HVB := Lib.hid hvb
  have HNB := Lib.hid hnb
  have HLB := Lib.hid hlb
  clear hb2 hvb hnb hlb hpb HB1 HVA
  have hcmp := cmpWords_v _ _ la lb w2 HVA2.out HVB.out HNA.out HNB.out
  rw [← (cmpI_words HLA.out HLB.out).2.1 (by have := HAA.out; omega) (by have := HBB.out; omega)] at hcmp
  go_wp2_with fail
  refine hcmp.mono ?_
  rintro e w3 ⟨rfl, hb3⟩
  go_wp2
  go_ret
  exact ⟨rfl, HB2.out.trans (hb3.mono HB2.out.size)⟩
theorem cmp_bbtf {za zb : Int} {b1 b2 : Bool} {ad1 ad2 : Addr} {n1 c1 n2 c2 : Nat} (w : World) (ha : IV w (.agg #[.int .i64 0, .bool b1, .slice (some ad1) n1 c1]) za) (hb : IV w (.agg #[.int .i64 0, .bool b2, .slice (some ad2) n2 c2]) zb) (hda : za < 0) (hdb : ¬ zb < 0) :
    Calls Tryz.prog 135 #[.agg #[.int .i64 0, .bool b1, .slice (some ad1) n1 c1], .agg #[.int .i64 0, .bool b2, .slice (some ad2) n2 c2]] w fun e w' => e = .returned (.int .i64 (cmpI za zb)) ∧ Below w.heap.size w w' := by
  have kq := mag_eql
  have kq0 := mag_eql0
  have hpa := fun (W' : World) (hB : Below w.heap.size w W') => parts_any _ _ W' (ha.far hB)
  have hpb := fun (W' : World) (hB : Below w.heap.size w W') => parts_any _ _ W' (hb.far hB)
  clear ha hb
  have HAA := Lib.hid hda
  have HBB := Lib.hid hdb
  have hda' : decide (za < 0) = true := by simpa using hda
  have hdb' : decide (zb < 0) = false := by simpa using hdb
  clear hda hdb
  go_enter Tryz.func135, Tryz.ntmps135
  go_wp2_with fail
  refine (hpa _ (below2 w _ _)).mono ?_
  rintro e w1 ⟨va', la, rfl, hva, hna, hla, -, hb1⟩
  obtain ⟨hc1, hf1⟩ := bcell hb1
  have hz1 : w.heap.size + 1 < w1.heap.size := by have := hb1.size; simp at this; omega
  have HB1 := Lib.hid ((below2 w _ _).trans (hb1.mono (by simp; omega)))
  have HVA := Lib.hid hva
  have HNA := Lib.hid hna
  have HLA := Lib.hid hla
  clear hb1 hva hna hla hpa
  go_wp2_with fail
  refine (hpb _ HB1.out).mono ?_
  rintro e w2 ⟨vb', lb, rfl, hvb, hnb, hlb, -, hb2⟩
  have HB2 := Lib.hid (HB1.out.trans (hb2.mono HB1.out.size))
  have HVA2 := Lib.hid (HVA.out.far hb2)
  have HVB := Lib.hid hvb
  have HNB := Lib.hid hnb
  have HLB := Lib.hid hlb
  clear hb2 hvb hnb hlb hpb HB1 HVA
  go_wp2
  go_ret
  exact ⟨ret_int ((cmpI_words HLA.out HLB.out).2.2.1 (by have := HAA.out; omega) (by have := HBB.out; omega)).symm, HB2.out⟩
theorem cmp_bbft {za zb : Int} {b1 b2 : Bool} {ad1 ad2 : Addr} {n1 c1 n2 c2 : Nat} (w : World) (ha : IV w (.agg #[.int .i64 0, .bool b1, .slice (some ad1) n1 c1]) za) (hb : IV w (.agg #[.int .i64 0, .bool b2, .slice (some ad2) n2 c2]) zb) (hda : ¬ za < 0) (hdb : zb < 0) :
    Calls Tryz.prog 135 #[.agg #[.int .i64 0, .bool b1, .slice (some ad1) n1 c1], .agg #[.int .i64 0, .bool b2, .slice (some ad2) n2 c2]] w fun e w' => e = .returned (.int .i64 (cmpI za zb)) ∧ Below w.heap.size w w' := by
  have kq := mag_eql
  have kq0 := mag_eql0
  have hpa := fun (W' : World) (hB : Below w.heap.size w W') => parts_any _ _ W' (ha.far hB)
  have hpb := fun (W' : World) (hB : Below w.heap.size w W') => parts_any _ _ W' (hb.far hB)
  clear ha hb
  have HAA := Lib.hid hda
  have HBB := Lib.hid hdb
  have hda' : decide (za < 0) = false := by simpa using hda
  have hdb' : decide (zb < 0) = true := by simpa using hdb
  clear hda hdb
  go_enter Tryz.func135, Tryz.ntmps135
  go_wp2_with fail
  refine (hpa _ (below2 w _ _)).mono ?_
  rintro e w1 ⟨va', la, rfl, hva, hna, hla, -, hb1⟩
  obtain ⟨hc1, hf1⟩ := bcell hb1
  have hz1 : w.heap.size + 1 < w1.heap.size := by have := hb1.size; simp at this; omega
  have HB1 := Lib.hid ((below2 w _ _).trans (hb1.mono (by simp; omega)))
  have HVA := Lib.hid hva
  have HNA := Lib.hid hna
  have HLA := Lib.hid hla
  clear hb1 hva hna hla hpa
  go_wp2_with fail
  refine (hpb _ HB1.out).mono ?_
  rintro e w2 ⟨vb', lb, rfl, hvb, hnb, hlb, -, hb2⟩
  have HB2 := Lib.hid (HB1.out.trans (hb2.mono HB1.out.size))
  have HVA2 := Lib.hid (HVA.out.far hb2)
  have HVB := Lib.hid hvb
  have HNB := Lib.hid hnb
  have HLB := Lib.hid hlb
  clear hb2 hvb hnb hlb hpb HB1 HVA
  go_wp2
  go_ret
  exact ⟨ret_int ((cmpI_words HLA.out HLB.out).2.2.2 (by have := HAA.out; omega) (by have := HBB.out; omega)).symm, HB2.out⟩
theorem cmp_bstt {za zb : Int} {b1 : Bool} {ad1 : Addr} {n1 c1 : Nat} (w : World) (ha : IV w (.agg #[.int .i64 0, .bool b1, .slice (some ad1) n1 c1]) za) (hb : IV w (.agg #[.int .i64 zb, .bool false, .slice none 0 0]) zb) (hda : za < 0) (hdb : zb < 0) :
    Calls Tryz.prog 135 #[.agg #[.int .i64 0, .bool b1, .slice (some ad1) n1 c1], .agg #[.int .i64 zb, .bool false, .slice none 0 0]] w fun e w' => e = .returned (.int .i64 (cmpI za zb)) ∧ Below w.heap.size w w' := by
  have kq := mag_eql
  have kq0 := mag_eql0
  have hpa := fun (W' : World) (hB : Below w.heap.size w W') => parts_any _ _ W' (ha.far hB)
  have hpb := fun (W' : World) (hB : Below w.heap.size w W') => parts_any _ _ W' (hb.far hB)
  clear ha hb
  have HAA := Lib.hid hda
  have HBB := Lib.hid hdb
  have hda' : decide (za < 0) = true := by simpa using hda
  have hdb' : decide (zb < 0) = true := by simpa using hdb
  clear hda hdb
  go_enter Tryz.func135, Tryz.ntmps135
  go_wp2_with fail
  refine (hpa _ (below2 w _ _)).mono ?_
  rintro e w1 ⟨va', la, rfl, hva, hna, hla, -, hb1⟩
  obtain ⟨hc1, hf1⟩ := bcell hb1
  have hz1 : w.heap.size + 1 < w1.heap.size := by have := hb1.size; simp at this; omega
  have HB1 := Lib.hid ((below2 w _ _).trans (hb1.mono (by simp; omega)))
  have HVA := Lib.hid hva
  have HNA := Lib.hid hna
  have HLA := Lib.hid hla
  clear hb1 hva hna hla hpa
  go_wp2_with fail
  refine (hpb _ HB1.out).mono ?_
  rintro e w2 ⟨vb', lb, rfl, hvb, hnb, hlb, -, hb2⟩
  have HB2 := Lib.hid (HB1.out.trans (hb2.mono HB1.out.size))
  have HVA2 := Lib.hid (HVA.out.far hb2)
  have HVB := Lib.hid hvb
  have HNB := Lib.hid hnb
  have HLB := Lib.hid hlb
  clear hb2 hvb hnb hlb hpb HB1 HVA
  have hcmp := cmpWords_v _ _ lb la w2 HVB.out HVA2.out HNB.out HNA.out
  rw [← (cmpI_words HLA.out HLB.out).1 (by have := HAA.out; omega) (by have := HBB.out; omega)] at hcmp
  go_wp2_with fail
  refine hcmp.mono ?_
  rintro e w3 ⟨rfl, hb3⟩
  go_wp2
  go_ret
  exact ⟨rfl, HB2.out.trans (hb3.mono HB2.out.size)⟩
theorem cmp_bsff {za zb : Int} {b1 : Bool} {ad1 : Addr} {n1 c1 : Nat} (w : World) (ha : IV w (.agg #[.int .i64 0, .bool b1, .slice (some ad1) n1 c1]) za) (hb : IV w (.agg #[.int .i64 zb, .bool false, .slice none 0 0]) zb) (hda : ¬ za < 0) (hdb : ¬ zb < 0) :
    Calls Tryz.prog 135 #[.agg #[.int .i64 0, .bool b1, .slice (some ad1) n1 c1], .agg #[.int .i64 zb, .bool false, .slice none 0 0]] w fun e w' => e = .returned (.int .i64 (cmpI za zb)) ∧ Below w.heap.size w w' := by
  have kq := mag_eql
  have kq0 := mag_eql0
  have hpa := fun (W' : World) (hB : Below w.heap.size w W') => parts_any _ _ W' (ha.far hB)
  have hpb := fun (W' : World) (hB : Below w.heap.size w W') => parts_any _ _ W' (hb.far hB)
  clear ha hb
  have HAA := Lib.hid hda
  have HBB := Lib.hid hdb
  have hda' : decide (za < 0) = false := by simpa using hda
  have hdb' : decide (zb < 0) = false := by simpa using hdb
  clear hda hdb
  go_enter Tryz.func135, Tryz.ntmps135
  go_wp2_with fail
  refine (hpa _ (below2 w _ _)).mono ?_
  rintro e w1 ⟨va', la, rfl, hva, hna, hla, -, hb1⟩
  obtain ⟨hc1, hf1⟩ := bcell hb1
  have hz1 : w.heap.size + 1 < w1.heap.size := by have := hb1.size; simp at this; omega
  have HB1 := Lib.hid ((below2 w _ _).trans (hb1.mono (by simp; omega)))
  have HVA := Lib.hid hva
  have HNA := Lib.hid hna
  have HLA := Lib.hid hla
  clear hb1 hva hna hla hpa
  go_wp2_with fail
  refine (hpb _ HB1.out).mono ?_
  rintro e w2 ⟨vb', lb, rfl, hvb, hnb, hlb, -, hb2⟩
  have HB2 := Lib.hid (HB1.out.trans (hb2.mono HB1.out.size))
  have HVA2 := Lib.hid (HVA.out.far hb2)
  have HVB := Lib.hid hvb
  have HNB := Lib.hid hnb
  have HLB := Lib.hid hlb
  clear hb2 hvb hnb hlb hpb HB1 HVA
  have hcmp := cmpWords_v _ _ la lb w2 HVA2.out HVB.out HNA.out HNB.out
  rw [← (cmpI_words HLA.out HLB.out).2.1 (by have := HAA.out; omega) (by have := HBB.out; omega)] at hcmp
  go_wp2_with fail
  refine hcmp.mono ?_
  rintro e w3 ⟨rfl, hb3⟩
  go_wp2
  go_ret
  exact ⟨rfl, HB2.out.trans (hb3.mono HB2.out.size)⟩
theorem cmp_bstf {za zb : Int} {b1 : Bool} {ad1 : Addr} {n1 c1 : Nat} (w : World) (ha : IV w (.agg #[.int .i64 0, .bool b1, .slice (some ad1) n1 c1]) za) (hb : IV w (.agg #[.int .i64 zb, .bool false, .slice none 0 0]) zb) (hda : za < 0) (hdb : ¬ zb < 0) :
    Calls Tryz.prog 135 #[.agg #[.int .i64 0, .bool b1, .slice (some ad1) n1 c1], .agg #[.int .i64 zb, .bool false, .slice none 0 0]] w fun e w' => e = .returned (.int .i64 (cmpI za zb)) ∧ Below w.heap.size w w' := by
  have kq := mag_eql
  have kq0 := mag_eql0
  have hpa := fun (W' : World) (hB : Below w.heap.size w W') => parts_any _ _ W' (ha.far hB)
  have hpb := fun (W' : World) (hB : Below w.heap.size w W') => parts_any _ _ W' (hb.far hB)
  clear ha hb
  have HAA := Lib.hid hda
  have HBB := Lib.hid hdb
  have hda' : decide (za < 0) = true := by simpa using hda
  have hdb' : decide (zb < 0) = false := by simpa using hdb
  clear hda hdb
  go_enter Tryz.func135, Tryz.ntmps135
  go_wp2_with fail
  refine (hpa _ (below2 w _ _)).mono ?_
  rintro e w1 ⟨va', la, rfl, hva, hna, hla, -, hb1⟩
  obtain ⟨hc1, hf1⟩ := bcell hb1
  have hz1 : w.heap.size + 1 < w1.heap.size := by have := hb1.size; simp at this; omega
  have HB1 := Lib.hid ((below2 w _ _).trans (hb1.mono (by simp; omega)))
  have HVA := Lib.hid hva
  have HNA := Lib.hid hna
  have HLA := Lib.hid hla
  clear hb1 hva hna hla hpa
  go_wp2_with fail
  refine (hpb _ HB1.out).mono ?_
  rintro e w2 ⟨vb', lb, rfl, hvb, hnb, hlb, -, hb2⟩
  have HB2 := Lib.hid (HB1.out.trans (hb2.mono HB1.out.size))
  have HVA2 := Lib.hid (HVA.out.far hb2)
  have HVB := Lib.hid hvb
  have HNB := Lib.hid hnb
  have HLB := Lib.hid hlb
  clear hb2 hvb hnb hlb hpb HB1 HVA
  go_wp2
  go_ret
  exact ⟨ret_int ((cmpI_words HLA.out HLB.out).2.2.1 (by have := HAA.out; omega) (by have := HBB.out; omega)).symm, HB2.out⟩
theorem cmp_bsft {za zb : Int} {b1 : Bool} {ad1 : Addr} {n1 c1 : Nat} (w : World) (ha : IV w (.agg #[.int .i64 0, .bool b1, .slice (some ad1) n1 c1]) za) (hb : IV w (.agg #[.int .i64 zb, .bool false, .slice none 0 0]) zb) (hda : ¬ za < 0) (hdb : zb < 0) :
    Calls Tryz.prog 135 #[.agg #[.int .i64 0, .bool b1, .slice (some ad1) n1 c1], .agg #[.int .i64 zb, .bool false, .slice none 0 0]] w fun e w' => e = .returned (.int .i64 (cmpI za zb)) ∧ Below w.heap.size w w' := by
  have kq := mag_eql
  have kq0 := mag_eql0
  have hpa := fun (W' : World) (hB : Below w.heap.size w W') => parts_any _ _ W' (ha.far hB)
  have hpb := fun (W' : World) (hB : Below w.heap.size w W') => parts_any _ _ W' (hb.far hB)
  clear ha hb
  have HAA := Lib.hid hda
  have HBB := Lib.hid hdb
  have hda' : decide (za < 0) = false := by simpa using hda
  have hdb' : decide (zb < 0) = true := by simpa using hdb
  clear hda hdb
  go_enter Tryz.func135, Tryz.ntmps135
  go_wp2_with fail
  refine (hpa _ (below2 w _ _)).mono ?_
  rintro e w1 ⟨va', la, rfl, hva, hna, hla, -, hb1⟩
  obtain ⟨hc1, hf1⟩ := bcell hb1
  have hz1 : w.heap.size + 1 < w1.heap.size := by have := hb1.size; simp at this; omega
  have HB1 := Lib.hid ((below2 w _ _).trans (hb1.mono (by simp; omega)))
  have HVA := Lib.hid hva
  have HNA := Lib.hid hna
  have HLA := Lib.hid hla
  clear hb1 hva hna hla hpa
  go_wp2_with fail
  refine (hpb _ HB1.out).mono ?_
  rintro e w2 ⟨vb', lb, rfl, hvb, hnb, hlb, -, hb2⟩
  have HB2 := Lib.hid (HB1.out.trans (hb2.mono HB1.out.size))
  have HVA2 := Lib.hid (HVA.out.far hb2)
  have HVB := Lib.hid hvb
  have HNB := Lib.hid hnb
  have HLB := Lib.hid hlb
  clear hb2 hvb hnb hlb hpb HB1 HVA
  go_wp2
  go_ret
  exact ⟨ret_int ((cmpI_words HLA.out HLB.out).2.2.2 (by have := HAA.out; omega) (by have := HBB.out; omega)).symm, HB2.out⟩
theorem cmp_sbtt {za zb : Int} {b2 : Bool} {ad2 : Addr} {n2 c2 : Nat} (w : World) (ha : IV w (.agg #[.int .i64 za, .bool false, .slice none 0 0]) za) (hb : IV w (.agg #[.int .i64 0, .bool b2, .slice (some ad2) n2 c2]) zb) (hda : za < 0) (hdb : zb < 0) :
    Calls Tryz.prog 135 #[.agg #[.int .i64 za, .bool false, .slice none 0 0], .agg #[.int .i64 0, .bool b2, .slice (some ad2) n2 c2]] w fun e w' => e = .returned (.int .i64 (cmpI za zb)) ∧ Below w.heap.size w w' := by
  have kq := mag_eql
  have kq0 := mag_eql0
  have hpa := fun (W' : World) (hB : Below w.heap.size w W') => parts_any _ _ W' (ha.far hB)
  have hpb := fun (W' : World) (hB : Below w.heap.size w W') => parts_any _ _ W' (hb.far hB)
  clear ha hb
  have HAA := Lib.hid hda
  have HBB := Lib.hid hdb
  have hda' : decide (za < 0) = true := by simpa using hda
  have hdb' : decide (zb < 0) = true := by simpa using hdb
  clear hda hdb
  go_enter Tryz.func135, Tryz.ntmps135
  go_wp2_with fail
  refine (hpa _ (below2 w _ _)).mono ?_
  rintro e w1 ⟨va', la, rfl, hva, hna, hla, -, hb1⟩
  obtain ⟨hc1, hf1⟩ := bcell hb1
  have hz1 : w.heap.size + 1 < w1.heap.size := by have := hb1.size; simp at this; omega
  have HB1 := Lib.hid ((below2 w _ _).trans (hb1.mono (by simp; omega)))
  have HVA := Lib.hid hva
  have HNA := Lib.hid hna
  have HLA := Lib.hid hla
  clear hb1 hva hna hla hpa
  go_wp2_with fail
  refine (hpb _ HB1.out).mono ?_
  rintro e w2 ⟨vb', lb, rfl, hvb, hnb, hlb, -, hb2⟩
  have HB2 := Lib.hid (HB1.out.trans (hb2.mono HB1.out.size))
  have HVA2 := Lib.hid (HVA.out.far hb2)
  have HVB := Lib.hid hvb
  have HNB := Lib.hid hnb
  have HLB := Lib.hid hlb
  clear hb2 hvb hnb hlb hpb HB1 HVA
  have hcmp := cmpWords_v _ _ lb la w2 HVB.out HVA2.out HNB.out HNA.out
  rw [← (cmpI_words HLA.out HLB.out).1 (by have := HAA.out; omega) (by have := HBB.out; omega)] at hcmp
  go_wp2_with fail
  refine hcmp.mono ?_
  rintro e w3 ⟨rfl, hb3⟩
  go_wp2
  go_ret
  exact ⟨rfl, HB2.out.trans (hb3.mono HB2.out.size)⟩
theorem cmp_sbff {za zb : Int} {b2 : Bool} {ad2 : Addr} {n2 c2 : Nat} (w : World) (ha : IV w (.agg #[.int .i64 za, .bool false, .slice none 0 0]) za) (hb : IV w (.agg #[.int .i64 0, .bool b2, .slice (some ad2) n2 c2]) zb) (hda : ¬ za < 0) (hdb : ¬ zb < 0) :
    Calls Tryz.prog 135 #[.agg #[.int .i64 za, .bool false, .slice none 0 0], .agg #[.int .i64 0, .bool b2, .slice (some ad2) n2 c2]] w fun e w' => e = .returned (.int .i64 (cmpI za zb)) ∧ Below w.heap.size w w' := by
  have kq := mag_eql
  have kq0 := mag_eql0
  have hpa := fun (W' : World) (hB : Below w.heap.size w W') => parts_any _ _ W' (ha.far hB)
  have hpb := fun (W' : World) (hB : Below w.heap.size w W') => parts_any _ _ W' (hb.far hB)
  clear ha hb
  have HAA := Lib.hid hda
  have HBB := Lib.hid hdb
  have hda' : decide (za < 0) = false := by simpa using hda
  have hdb' : decide (zb < 0) = false := by simpa using hdb
  clear hda hdb
  go_enter Tryz.func135, Tryz.ntmps135
  go_wp2_with fail
  refine (hpa _ (below2 w _ _)).mono ?_
  rintro e w1 ⟨va', la, rfl, hva, hna, hla, -, hb1⟩
  obtain ⟨hc1, hf1⟩ := bcell hb1
  have hz1 : w.heap.size + 1 < w1.heap.size := by have := hb1.size; simp at this; omega
  have HB1 := Lib.hid ((below2 w _ _).trans (hb1.mono (by simp; omega)))
  have HVA := Lib.hid hva
  have HNA := Lib.hid hna
  have HLA := Lib.hid hla
  clear hb1 hva hna hla hpa
  go_wp2_with fail
  refine (hpb _ HB1.out).mono ?_
  rintro e w2 ⟨vb', lb, rfl, hvb, hnb, hlb, -, hb2⟩
  have HB2 := Lib.hid (HB1.out.trans (hb2.mono HB1.out.size))
  have HVA2 := Lib.hid (HVA.out.far hb2)
  have HVB := Lib.hid hvb
  have HNB := Lib.hid hnb
  have HLB := Lib.hid hlb
  clear hb2 hvb hnb hlb hpb HB1 HVA
  have hcmp := cmpWords_v _ _ la lb w2 HVA2.out HVB.out HNA.out HNB.out
  rw [← (cmpI_words HLA.out HLB.out).2.1 (by have := HAA.out; omega) (by have := HBB.out; omega)] at hcmp
  go_wp2_with fail
  refine hcmp.mono ?_
  rintro e w3 ⟨rfl, hb3⟩
  go_wp2
  go_ret
  exact ⟨rfl, HB2.out.trans (hb3.mono HB2.out.size)⟩
theorem cmp_sbtf {za zb : Int} {b2 : Bool} {ad2 : Addr} {n2 c2 : Nat} (w : World) (ha : IV w (.agg #[.int .i64 za, .bool false, .slice none 0 0]) za) (hb : IV w (.agg #[.int .i64 0, .bool b2, .slice (some ad2) n2 c2]) zb) (hda : za < 0) (hdb : ¬ zb < 0) :
    Calls Tryz.prog 135 #[.agg #[.int .i64 za, .bool false, .slice none 0 0], .agg #[.int .i64 0, .bool b2, .slice (some ad2) n2 c2]] w fun e w' => e = .returned (.int .i64 (cmpI za zb)) ∧ Below w.heap.size w w' := by
  have kq := mag_eql
  have kq0 := mag_eql0
  have hpa := fun (W' : World) (hB : Below w.heap.size w W') => parts_any _ _ W' (ha.far hB)
  have hpb := fun (W' : World) (hB : Below w.heap.size w W') => parts_any _ _ W' (hb.far hB)
  clear ha hb
  have HAA := Lib.hid hda
  have HBB := Lib.hid hdb
  have hda' : decide (za < 0) = true := by simpa using hda
  have hdb' : decide (zb < 0) = false := by simpa using hdb
  clear hda hdb
  go_enter Tryz.func135, Tryz.ntmps135
  go_wp2_with fail
  refine (hpa _ (below2 w _ _)).mono ?_
  rintro e w1 ⟨va', la, rfl, hva, hna, hla, -, hb1⟩
  obtain ⟨hc1, hf1⟩ := bcell hb1
  have hz1 : w.heap.size + 1 < w1.heap.size := by have := hb1.size; simp at this; omega
  have HB1 := Lib.hid ((below2 w _ _).trans (hb1.mono (by simp; omega)))
  have HVA := Lib.hid hva
  have HNA := Lib.hid hna
  have HLA := Lib.hid hla
  clear hb1 hva hna hla hpa
  go_wp2_with fail
  refine (hpb _ HB1.out).mono ?_
  rintro e w2 ⟨vb', lb, rfl, hvb, hnb, hlb, -, hb2⟩
  have HB2 := Lib.hid (HB1.out.trans (hb2.mono HB1.out.size))
  have HVA2 := Lib.hid (HVA.out.far hb2)
  have HVB := Lib.hid hvb
  have HNB := Lib.hid hnb
  have HLB := Lib.hid hlb
  clear hb2 hvb hnb hlb hpb HB1 HVA
  go_wp2
  go_ret
  exact ⟨ret_int ((cmpI_words HLA.out HLB.out).2.2.1 (by have := HAA.out; omega) (by have := HBB.out; omega)).symm, HB2.out⟩
theorem cmp_sbft {za zb : Int} {b2 : Bool} {ad2 : Addr} {n2 c2 : Nat} (w : World) (ha : IV w (.agg #[.int .i64 za, .bool false, .slice none 0 0]) za) (hb : IV w (.agg #[.int .i64 0, .bool b2, .slice (some ad2) n2 c2]) zb) (hda : ¬ za < 0) (hdb : zb < 0) :
    Calls Tryz.prog 135 #[.agg #[.int .i64 za, .bool false, .slice none 0 0], .agg #[.int .i64 0, .bool b2, .slice (some ad2) n2 c2]] w fun e w' => e = .returned (.int .i64 (cmpI za zb)) ∧ Below w.heap.size w w' := by
  have kq := mag_eql
  have kq0 := mag_eql0
  have hpa := fun (W' : World) (hB : Below w.heap.size w W') => parts_any _ _ W' (ha.far hB)
  have hpb := fun (W' : World) (hB : Below w.heap.size w W') => parts_any _ _ W' (hb.far hB)
  clear ha hb
  have HAA := Lib.hid hda
  have HBB := Lib.hid hdb
  have hda' : decide (za < 0) = false := by simpa using hda
  have hdb' : decide (zb < 0) = true := by simpa using hdb
  clear hda hdb
  go_enter Tryz.func135, Tryz.ntmps135
  go_wp2_with fail
  refine (hpa _ (below2 w _ _)).mono ?_
  rintro e w1 ⟨va', la, rfl, hva, hna, hla, -, hb1⟩
  obtain ⟨hc1, hf1⟩ := bcell hb1
  have hz1 : w.heap.size + 1 < w1.heap.size := by have := hb1.size; simp at this; omega
  have HB1 := Lib.hid ((below2 w _ _).trans (hb1.mono (by simp; omega)))
  have HVA := Lib.hid hva
  have HNA := Lib.hid hna
  have HLA := Lib.hid hla
  clear hb1 hva hna hla hpa
  go_wp2_with fail
  refine (hpb _ HB1.out).mono ?_
  rintro e w2 ⟨vb', lb, rfl, hvb, hnb, hlb, -, hb2⟩
  have HB2 := Lib.hid (HB1.out.trans (hb2.mono HB1.out.size))
  have HVA2 := Lib.hid (HVA.out.far hb2)
  have HVB := Lib.hid hvb
  have HNB := Lib.hid hnb
  have HLB := Lib.hid hlb
  clear hb2 hvb hnb hlb hpb HB1 HVA
  go_wp2
  go_ret
  exact ⟨ret_int ((cmpI_words HLA.out HLB.out).2.2.2 (by have := HAA.out; omega) (by have := HBB.out; omega)).symm, HB2.out⟩
theorem cmp_any (x y : Value) (za zb : Int) (w : World) (ha : IV w x za) (hb : IV w y zb) : Calls Tryz.prog 135 #[x, y] w fun e w' => e = .returned (.int .i64 (cmpI za zb)) ∧ Below w.heap.size w w' := by
  rcases ha with ⟨rfl, p1⟩ | ⟨b1, g1, o1, c1, l1, rfl, p2, p3, p4⟩
  · rcases hb with ⟨rfl, k1⟩ | ⟨b2, g2, o2, c2, l2, rfl, k2, k3, k4⟩
    · exact cmp_ss w p1 k1
    · by_cases h1 : za < 0
      · by_cases h2 : zb < 0
        · exact cmp_sbtt w (.inl ⟨rfl, p1⟩) (.inr ⟨b2, g2, o2, c2, l2, rfl, k2, k3, k4⟩) h1 h2
        · exact cmp_sbtf w (.inl ⟨rfl, p1⟩) (.inr ⟨b2, g2, o2, c2, l2, rfl, k2, k3, k4⟩) h1 h2
      · by_cases h2 : zb < 0
        · exact cmp_sbft w (.inl ⟨rfl, p1⟩) (.inr ⟨b2, g2, o2, c2, l2, rfl, k2, k3, k4⟩) h1 h2
        · exact cmp_sbff w (.inl ⟨rfl, p1⟩) (.inr ⟨b2, g2, o2, c2, l2, rfl, k2, k3, k4⟩) h1 h2
  · rcases hb with ⟨rfl, k1⟩ | ⟨b2, g2, o2, c2, l2, rfl, k2, k3, k4⟩
    · by_cases h1 : za < 0
      · by_cases h2 : zb < 0
        · exact cmp_bstt w (.inr ⟨b1, g1, o1, c1, l1, rfl, p2, p3, p4⟩) (.inl ⟨rfl, k1⟩) h1 h2
        · exact cmp_bstf w (.inr ⟨b1, g1, o1, c1, l1, rfl, p2, p3, p4⟩) (.inl ⟨rfl, k1⟩) h1 h2
      · by_cases h2 : zb < 0
        · exact cmp_bsft w (.inr ⟨b1, g1, o1, c1, l1, rfl, p2, p3, p4⟩) (.inl ⟨rfl, k1⟩) h1 h2
        · exact cmp_bsff w (.inr ⟨b1, g1, o1, c1, l1, rfl, p2, p3, p4⟩) (.inl ⟨rfl, k1⟩) h1 h2
    · by_cases h1 : za < 0
      · by_cases h2 : zb < 0
        · exact cmp_bbtt w (.inr ⟨b1, g1, o1, c1, l1, rfl, p2, p3, p4⟩) (.inr ⟨b2, g2, o2, c2, l2, rfl, k2, k3, k4⟩) h1 h2
        · exact cmp_bbtf w (.inr ⟨b1, g1, o1, c1, l1, rfl, p2, p3, p4⟩) (.inr ⟨b2, g2, o2, c2, l2, rfl, k2, k3, k4⟩) h1 h2
      · by_cases h2 : zb < 0
        · exact cmp_bbft w (.inr ⟨b1, g1, o1, c1, l1, rfl, p2, p3, p4⟩) (.inr ⟨b2, g2, o2, c2, l2, rfl, k2, k3, k4⟩) h1 h2
        · exact cmp_bbff w (.inr ⟨b1, g1, o1, c1, l1, rfl, p2, p3, p4⟩) (.inr ⟨b2, g2, o2, c2, l2, rfl, k2, k3, k4⟩) h1 h2
end
end Go.Proofs.YtgehimcngljmnaaGreatDoor

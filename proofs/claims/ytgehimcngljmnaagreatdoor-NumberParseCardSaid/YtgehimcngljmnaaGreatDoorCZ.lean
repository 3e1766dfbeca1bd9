/- number.Parse at every text. -/
import Derived.Test.YtgehimcngljmnaaGreatDoorCY
import Derived.Test.YtgehimcngljmnaaGreatDoorRG
namespace Go.Proofs.YtgehimcngljmnaaGreatDoor
open Go.RowKit Nmx

theorem mt0 {d : ByteArray} (h : d.size = 0) : d.toList.isEmpty = true ∧ d.toList = [] := by
  have h1 := isE d
  have h2 : d.toList.isEmpty = true := by rw [h1]; simpa using h
  exact ⟨h2, by simpa using h2⟩
theorem mt1 {d : ByteArray} (h : 0 < d.size) : d.toList.isEmpty = false ∧ ¬ d.toList = [] := by
  have h1 := isE d
  have h2 : d.toList.isEmpty = false := by rw [h1]; simpa using (by omega : d.size ≠ 0)
  exact ⟨h2, fun e => by rw [e] at h2; cases h2⟩
def CutIs (s A P : ByteArray) (c : Bool) : Prop := ∀ W, Env W → Calls Tryz.prog 62 #[.string s, .string ⟨#[46]⟩] W fun e w' => e = .returned (.tuple #[.string A, .string P, .bool c]) ∧ ∃ n, w' = W.drewN n
def TrimIs (A D : ByteArray) : Prop := ∀ W, Calls Tryz.prog 63 #[.string A, .string ⟨#[45]⟩] W fun e w' => e = .returned (.string D) ∧ w' = W
def IntIs (X : ByteArray) (ok : Bool) (n : Int) : Prop := ∀ W, Calls Tryz.prog 64 #[.string X] W fun e w' => ∃ v, e = .returned (.tuple #[v, .bool ok]) ∧ IV w' v n ∧ Below W.heap.size W w'
def RepIs (k : Nat) (Z : ByteArray) : Prop := ∀ W, Calls Tryz.prog 65 #[.string ⟨#[48]⟩, .int .i64 k] W fun e w' => e = .returned (.string Z) ∧ Below W.heap.size W w'
def GivesT (w : World) (x : ByteArray) (ok : Bool) (e : Ending) (w' : World) : Prop := e = .returned (.tuple #[.string x, .bool ok]) ∧ Below w.heap.size w w'
section
set_option maxRecDepth 100000
set_option maxHeartbeats 4000000
theorem np_c1 (s A P : ByteArray) (w : World) (hc : CutIs s A P true) (h : Env w) (h0 : P.size = 0) : Calls Tryz.prog 21 #[.string s] w (GivesT w ⟨#[]⟩ false) := by
  have HE := Lib.hid h
  have hcut := hc w h
  clear hc h
  obtain ⟨e1, e2⟩ := mt0 h0
  unfold GivesT
  go_enter Tryz.func21, Tryz.ntmps21
  go_wp2_with fail
  refine hcut.mono ?_
  rintro e w1 ⟨rfl, n1, rfl⟩
  go_wp2
  go_ret2
  exact ⟨rfl, below_drewN (Below.refl w.heap.size w) n1⟩
theorem np_c2 (s A P : ByteArray) (w : World) (hc : CutIs s A P true) (h : Env w) (h0 : 0 < P.size) (h1 : P[0].toNat = 45) : Calls Tryz.prog 21 #[.string s] w (GivesT w ⟨#[]⟩ false) := by
  have HE := Lib.hid h
  have hcut := hc w h
  clear hc h
  obtain ⟨e1, e2⟩ := mt1 h0
  have hb : ((P[0].toNat : Int) == 45) = true := by simp [h1]
  clear h1
  unfold GivesT
  go_enter Tryz.func21, Tryz.ntmps21
  go_wp2_with fail
  refine hcut.mono ?_
  rintro e w1 ⟨rfl, n1, rfl⟩
  go_wp2
  go_ret2
  exact ⟨rfl, below_drewN (Below.refl w.heap.size w) n1⟩
theorem np_d1a (s A P D : ByteArray) (w : World) (hc : CutIs s A P false) (h : Env w) (htp : TrimIs A D) (h2 : D.size = 0) : Calls Tryz.prog 21 #[.string s] w (GivesT w ⟨#[]⟩ false) := by
  have HE := Lib.hid h
  have hcut := hc w h
  clear hc h
  obtain ⟨g1, g2⟩ := mt0 h2
  unfold TrimIs at htp
  unfold GivesT
  go_enter Tryz.func21, Tryz.ntmps21
  go_wp2_with fail
  refine hcut.mono ?_
  rintro e w1 ⟨rfl, n1, rfl⟩
  go_wp2_with fail
  refine (htp _).mono ?_
  rintro e w2 ⟨rfl, hw2⟩
  rw [hw2]
  clear hw2
  go_wp2
  go_ret2
  exact ⟨rfl, below_drewN (Below.refl w.heap.size w) n1⟩
theorem np_d2a (s A P D : ByteArray) (w : World) (hc : CutIs s A P false) (h : Env w) (htp : TrimIs A D) (h2 : 0 < D.size) (h3 : D[0].toNat = 45) : Calls Tryz.prog 21 #[.string s] w (GivesT w ⟨#[]⟩ false) := by
  have HE := Lib.hid h
  have hcut := hc w h
  clear hc h
  obtain ⟨g1, g2⟩ := mt1 h2
  have hd : ((D[0].toNat : Int) == 45) = true := by simp [h3]
  clear h3
  unfold TrimIs at htp
  unfold GivesT
  go_enter Tryz.func21, Tryz.ntmps21
  go_wp2_with fail
  refine hcut.mono ?_
  rintro e w1 ⟨rfl, n1, rfl⟩
  go_wp2_with fail
  refine (htp _).mono ?_
  rintro e w2 ⟨rfl, hw2⟩
  rw [hw2]
  clear hw2
  go_wp2
  go_ret2
  exact ⟨rfl, below_drewN (Below.refl w.heap.size w) n1⟩
theorem np_na (s A P D : ByteArray) (w : World) (hc : CutIs s A P false) (h : Env w) (n : Int) (hs : A.size + P.size ≤ 8000) (htp : TrimIs A D) (h2 : 0 < D.size) (h3 : D[0].toNat ≠ 45) (hp1 : IntIs (A ++ P) false n) : Calls Tryz.prog 21 #[.string s] w (GivesT w ⟨#[]⟩ false) := by
  have HE := Lib.hid h
  have hcut := hc w h
  clear hc h
  obtain ⟨g1, g2⟩ := mt1 h2
  have hd : ((D[0].toNat : Int) == 45) = false := by simp; omega
  clear h3
  unfold TrimIs at htp
  unfold IntIs at hp1
  unfold GivesT
  go_enter Tryz.func21, Tryz.ntmps21
  go_wp2_with fail
  refine hcut.mono ?_
  rintro e w1 ⟨rfl, n1, rfl⟩
  go_wp2_with fail
  refine (htp _).mono ?_
  rintro e w2 ⟨rfl, hw2⟩
  rw [hw2]
  clear hw2
  go_wp2_with fail
  refine (hp1 _).mono ?_
  rintro e w3 ⟨v3, rfl, hv3, hb3⟩
  have HV3 := Lib.hid hv3
  obtain ⟨s3, b3, a3, n3, c3, rfl⟩ := iv_form hv3
  have HB3 := Lib.hid ((below_drewN (Below.refl w.heap.size w) n1).trans (hb3.mono (by simp)))
  clear hv3 hb3 hcut
  go_wp2
  go_ret2
  exact ⟨rfl, HB3.out.alloc HB3.out.size _⟩
theorem np_oa (s A P D Z : ByteArray) (w : World) (hc : CutIs s A P false) (h : Env w) (n d : Int) (qq : Rat) (hs : A.size + P.size ≤ 8000) (hz : Z.size ≤ 8000) (htp : TrimIs A D) (h2 : 0 < D.size) (h3 : D[0].toNat ≠ 45) (hp1 : IntIs (A ++ P) true n) (hrp : RepIs P.size Z) (hp2 : IntIs ((⟨#[49]⟩ : ByteArray) ++ Z) true d) (hqt : ∀ (x y : Value) (W : World), IV W x n → IV W y d → Calls Tryz.prog 66 #[x, y] W (GetsQ qq W)) (HSZ : Hid ((decI qq.num).length + (decI qq.den).length ≤ 1000000000)) : Calls Tryz.prog 21 #[.string s] w (GivesT w (TX qq) true) := by
  have HE := Lib.hid h
  have hcut := hc w h
  clear hc h
  obtain ⟨g1, g2⟩ := mt1 h2
  have hd : ((D[0].toNat : Int) == 45) = false := by simp; omega
  clear h3
  unfold TrimIs at htp
  unfold IntIs at hp1 hp2
  unfold RepIs at hrp
  unfold GivesT
  go_enter Tryz.func21, Tryz.ntmps21
  go_wp2_with fail
  refine hcut.mono ?_
  rintro e w1 ⟨rfl, n1, rfl⟩
  go_wp2_with fail
  refine (htp _).mono ?_
  rintro e w2 ⟨rfl, hw2⟩
  rw [hw2]
  clear hw2
  go_wp2_with fail
  refine (hp1 _).mono ?_
  rintro e w3 ⟨v3, rfl, hv3, hb3⟩
  have HV3 := Lib.hid hv3
  obtain ⟨s3, b3, a3, n3, c3, rfl⟩ := iv_form hv3
  have HB3 := Lib.hid ((below_drewN (Below.refl w.heap.size w) n1).trans (hb3.mono (by simp)))
  clear hv3 hb3 hcut
  go_wp2_with fail
  have HX3 := Lib.hid (heap_alloc_new w3 (.cells #[.int .i64 s3, .bool b3, .slice a3 n3 c3] 58))
  have HA3 := Lib.hid (HB3.out.alloc HB3.out.size (.cells #[.int .i64 s3, .bool b3, .slice a3 n3 c3] 58))
  have HW3 := Lib.hid (HV3.out.alloc_of (.cells #[.int .i64 s3, .bool b3, .slice a3 n3 c3] 58))
  generalize w3.heap.size = g3 at *
  refine (hrp _).mono ?_
  rintro e w4 ⟨rfl, hb4⟩
  have HX4 := Lib.hid ((hb4.block _ (lt_of_heap HX3.out)).trans HX3.out)
  have HB4 := Lib.hid (HA3.out.trans (hb4.mono HA3.out.size))
  have HW4 := Lib.hid (HW3.out.far hb4)
  clear hb4 HX3 HA3 HW3 hrp HB3 HV3
  go_wp2_with fail
  refine (hp2 _).mono ?_
  rintro e w5 ⟨v5, rfl, hv5, hb5⟩
  have HX5 := Lib.hid ((hb5.block _ (lt_of_heap HX4.out)).trans HX4.out)
  have HB5 := Lib.hid (HB4.out.trans (hb5.mono HB4.out.size))
  have HW5 := Lib.hid (HW4.out.far hb5)
  have HV5 := Lib.hid hv5
  obtain ⟨s5, b5, a5, n5, c5, rfl⟩ := iv_form hv5
  have hbx : Below w5.heap.size w5 (w5.alloc (.cells #[.int .i64 s5, .bool b5, .slice a5 n5 c5] 58)) := (Below.refl _ _).alloc (Nat.le_refl _) _
  have hqt2 := hqt _ _ _ (HW5.out.far hbx) (HV5.out.far hbx)
  have HB6 := Lib.hid (HB5.out.alloc HB5.out.size (.cells #[.int .i64 s5, .bool b5, .slice a5 n5 c5] 58))
  obtain ⟨k0, k1, k2, -⟩ := Cells.of HX5.out
  have hlt5 := lt_of_heap HX5.out
  clear hb5 hv5 hbx hqt hp2 hp1
  go_wp2_with fail
  refine hqt2.mono ?_
  rintro e w7 ⟨v7, rfl, hv7, hb7⟩
  have HB7 := Lib.hid (HB6.out.trans (hb7.mono HB6.out.size))
  have hst := ratString_any v7 qq w7 hv7 (HE.out.far HB7.out) HSZ.out
  clear hb7 hv7 hqt2
  go_wp2_with fail
  refine hst.mono ?_
  rintro e w8 ⟨rfl, hb8⟩
  have HB8 := Lib.hid (HB7.out.trans (hb8.mono HB7.out.size))
  go_wp2
  go_ret2
  exact ⟨rfl, HB8.out⟩
theorem np_d1b (s A P D : ByteArray) (w : World) (hc : CutIs s A P true) (h : Env w) (htp : TrimIs A D) (h0 : 0 < P.size) (h1 : P[0].toNat ≠ 45) (h2 : D.size = 0) : Calls Tryz.prog 21 #[.string s] w (GivesT w ⟨#[]⟩ false) := by
  have HE := Lib.hid h
  have hcut := hc w h
  clear hc h
  obtain ⟨e1, e2⟩ := mt1 h0
  have hb : ((P[0].toNat : Int) == 45) = false := by simp; omega
  clear h1
  obtain ⟨g1, g2⟩ := mt0 h2
  unfold TrimIs at htp
  unfold GivesT
  go_enter Tryz.func21, Tryz.ntmps21
  go_wp2_with fail
  refine hcut.mono ?_
  rintro e w1 ⟨rfl, n1, rfl⟩
  go_wp2_with fail
  refine (htp _).mono ?_
  rintro e w2 ⟨rfl, hw2⟩
  rw [hw2]
  clear hw2
  go_wp2
  go_ret2
  exact ⟨rfl, below_drewN (Below.refl w.heap.size w) n1⟩
theorem np_d2b (s A P D : ByteArray) (w : World) (hc : CutIs s A P true) (h : Env w) (htp : TrimIs A D) (h0 : 0 < P.size) (h1 : P[0].toNat ≠ 45) (h2 : 0 < D.size) (h3 : D[0].toNat = 45) : Calls Tryz.prog 21 #[.string s] w (GivesT w ⟨#[]⟩ false) := by
  have HE := Lib.hid h
  have hcut := hc w h
  clear hc h
  obtain ⟨e1, e2⟩ := mt1 h0
  have hb : ((P[0].toNat : Int) == 45) = false := by simp; omega
  clear h1
  obtain ⟨g1, g2⟩ := mt1 h2
  have hd : ((D[0].toNat : Int) == 45) = true := by simp [h3]
  clear h3
  unfold TrimIs at htp
  unfold GivesT
  go_enter Tryz.func21, Tryz.ntmps21
  go_wp2_with fail
  refine hcut.mono ?_
  rintro e w1 ⟨rfl, n1, rfl⟩
  go_wp2_with fail
  refine (htp _).mono ?_
  rintro e w2 ⟨rfl, hw2⟩
  rw [hw2]
  clear hw2
  go_wp2
  go_ret2
  exact ⟨rfl, below_drewN (Below.refl w.heap.size w) n1⟩
theorem np_nb (s A P D : ByteArray) (w : World) (hc : CutIs s A P true) (h : Env w) (n : Int) (hs : A.size + P.size ≤ 8000) (htp : TrimIs A D) (h0 : 0 < P.size) (h1 : P[0].toNat ≠ 45) (h2 : 0 < D.size) (h3 : D[0].toNat ≠ 45) (hp1 : IntIs (A ++ P) false n) : Calls Tryz.prog 21 #[.string s] w (GivesT w ⟨#[]⟩ false) := by
  have HE := Lib.hid h
  have hcut := hc w h
  clear hc h
  obtain ⟨e1, e2⟩ := mt1 h0
  have hb : ((P[0].toNat : Int) == 45) = false := by simp; omega
  clear h1
  obtain ⟨g1, g2⟩ := mt1 h2
  have hd : ((D[0].toNat : Int) == 45) = false := by simp; omega
  clear h3
  unfold TrimIs at htp
  unfold IntIs at hp1
  unfold GivesT
  go_enter Tryz.func21, Tryz.ntmps21
  go_wp2_with fail
  refine hcut.mono ?_
  rintro e w1 ⟨rfl, n1, rfl⟩
  go_wp2_with fail
  refine (htp _).mono ?_
  rintro e w2 ⟨rfl, hw2⟩
  rw [hw2]
  clear hw2
  go_wp2_with fail
  refine (hp1 _).mono ?_
  rintro e w3 ⟨v3, rfl, hv3, hb3⟩
  have HV3 := Lib.hid hv3
  obtain ⟨s3, b3, a3, n3, c3, rfl⟩ := iv_form hv3
  have HB3 := Lib.hid ((below_drewN (Below.refl w.heap.size w) n1).trans (hb3.mono (by simp)))
  clear hv3 hb3 hcut
  go_wp2
  go_ret2
  exact ⟨rfl, HB3.out.alloc HB3.out.size _⟩
theorem np_ob (s A P D Z : ByteArray) (w : World) (hc : CutIs s A P true) (h : Env w) (n d : Int) (qq : Rat) (hs : A.size + P.size ≤ 8000) (hz : Z.size ≤ 8000) (htp : TrimIs A D) (h0 : 0 < P.size) (h1 : P[0].toNat ≠ 45) (h2 : 0 < D.size) (h3 : D[0].toNat ≠ 45) (hp1 : IntIs (A ++ P) true n) (hrp : RepIs P.size Z) (hp2 : IntIs ((⟨#[49]⟩ : ByteArray) ++ Z) true d) (hqt : ∀ (x y : Value) (W : World), IV W x n → IV W y d → Calls Tryz.prog 66 #[x, y] W (GetsQ qq W)) (HSZ : Hid ((decI qq.num).length + (decI qq.den).length ≤ 1000000000)) : Calls Tryz.prog 21 #[.string s] w (GivesT w (TX qq) true) := by
  have HE := Lib.hid h
  have hcut := hc w h
  clear hc h
  obtain ⟨e1, e2⟩ := mt1 h0
  have hb : ((P[0].toNat : Int) == 45) = false := by simp; omega
  clear h1
  obtain ⟨g1, g2⟩ := mt1 h2
  have hd : ((D[0].toNat : Int) == 45) = false := by simp; omega
  clear h3
  unfold TrimIs at htp
  unfold IntIs at hp1 hp2
  unfold RepIs at hrp
  unfold GivesT
  go_enter Tryz.func21, Tryz.ntmps21
  go_wp2_with fail
  refine hcut.mono ?_
  rintro e w1 ⟨rfl, n1, rfl⟩
  go_wp2_with fail
  refine (htp _).mono ?_
  rintro e w2 ⟨rfl, hw2⟩
  rw [hw2]
  clear hw2
  go_wp2_with fail
  refine (hp1 _).mono ?_
  rintro e w3 ⟨v3, rfl, hv3, hb3⟩
  have HV3 := Lib.hid hv3
  obtain ⟨s3, b3, a3, n3, c3, rfl⟩ := iv_form hv3
  have HB3 := Lib.hid ((below_drewN (Below.refl w.heap.size w) n1).trans (hb3.mono (by simp)))
  clear hv3 hb3 hcut
  go_wp2_with fail
  have HX3 := Lib.hid (heap_alloc_new w3 (.cells #[.int .i64 s3, .bool b3, .slice a3 n3 c3] 58))
  have HA3 := Lib.hid (HB3.out.alloc HB3.out.size (.cells #[.int .i64 s3, .bool b3, .slice a3 n3 c3] 58))
  have HW3 := Lib.hid (HV3.out.alloc_of (.cells #[.int .i64 s3, .bool b3, .slice a3 n3 c3] 58))
  generalize w3.heap.size = g3 at *
  refine (hrp _).mono ?_
  rintro e w4 ⟨rfl, hb4⟩
  have HX4 := Lib.hid ((hb4.block _ (lt_of_heap HX3.out)).trans HX3.out)
  have HB4 := Lib.hid (HA3.out.trans (hb4.mono HA3.out.size))
  have HW4 := Lib.hid (HW3.out.far hb4)
  clear hb4 HX3 HA3 HW3 hrp HB3 HV3
  go_wp2_with fail
  refine (hp2 _).mono ?_
  rintro e w5 ⟨v5, rfl, hv5, hb5⟩
  have HX5 := Lib.hid ((hb5.block _ (lt_of_heap HX4.out)).trans HX4.out)
  have HB5 := Lib.hid (HB4.out.trans (hb5.mono HB4.out.size))
  have HW5 := Lib.hid (HW4.out.far hb5)
  have HV5 := Lib.hid hv5
  obtain ⟨s5, b5, a5, n5, c5, rfl⟩ := iv_form hv5
  have hbx : Below w5.heap.size w5 (w5.alloc (.cells #[.int .i64 s5, .bool b5, .slice a5 n5 c5] 58)) := (Below.refl _ _).alloc (Nat.le_refl _) _
  have hqt2 := hqt _ _ _ (HW5.out.far hbx) (HV5.out.far hbx)
  have HB6 := Lib.hid (HB5.out.alloc HB5.out.size (.cells #[.int .i64 s5, .bool b5, .slice a5 n5 c5] 58))
  obtain ⟨k0, k1, k2, -⟩ := Cells.of HX5.out
  have hlt5 := lt_of_heap HX5.out
  clear hb5 hv5 hbx hqt hp2 hp1
  go_wp2_with fail
  refine hqt2.mono ?_
  rintro e w7 ⟨v7, rfl, hv7, hb7⟩
  have HB7 := Lib.hid (HB6.out.trans (hb7.mono HB6.out.size))
  have hst := ratString_any v7 qq w7 hv7 (HE.out.far HB7.out) HSZ.out
  clear hb7 hv7 hqt2
  go_wp2_with fail
  refine hst.mono ?_
  rintro e w8 ⟨rfl, hb8⟩
  have HB8 := Lib.hid (HB7.out.trans (hb8.mono HB7.out.size))
  go_wp2
  go_ret2
  exact ⟨rfl, HB8.out⟩
end
def decT (l : List UInt8) : ByteArray := match decF l with
  | some q => TX q
  | none => ⟨#[]⟩
theorem decT_none {l : List UInt8} (h : decF l = none) : decT l = ⟨#[]⟩ ∧ (decF l).isSome = false := by unfold decT; rw [h]; exact ⟨rfl, rfl⟩
theorem decT_some {l : List UInt8} {q : Rat} (h : decF l = some q) : decT l = TX q ∧ (decF l).isSome = true := by unfold decT; rw [h]; exact ⟨rfl, rfl⟩
theorem intF_lt {l : List UInt8} {n : Int} (h : intF l = some n) : n.natAbs < 10 ^ l.length := by
  unfold intF at h
  split at h
  · cases h
  · rename_i hx
    have ha : (body l).all isD = true := by
      rw [← Bool.not_eq_false]
      exact fun e => hx (.inr e)
    have h1 := dv_lt _ ha
    have h2 : n.natAbs = dv (body l) := by cases h; exact sgn_natAbs _ _
    have h3 : (body l).length ≤ l.length := by unfold body; split <;> simp
    rw [h2]
    exact Nat.lt_of_lt_of_le h1 (Nat.pow_le_pow_right (by omega) h3)
theorem divInt_size {n : Int} {k j : Nat} (hn : n.natAbs < 10 ^ k) (hk : k ≤ 8000) (hj : j ≤ 8000) : (decI (Rat.divInt n ((10 ^ j : Nat) : Int)).num).length + (decI (Rat.divInt n ((10 ^ j : Nat) : Int)).den).length ≤ 1000000000 := by
  have hp : 0 < 10 ^ j := Nat.pow_pos (by omega)
  have hq : Rat.divInt n ((10 ^ j : Nat) : Int) = redQ (decide (n < 0)) n.natAbs (10 ^ j) := by
    unfold redQ
    rw [sgn_of]
  obtain ⟨r1, r2⟩ := redQ_parts (decide (n < 0)) n.natAbs (10 ^ j) hp
  rw [hq, r1, r2]
  have l1 : (decI (sgn (decide (n < 0)) (n.natAbs / n.natAbs.gcd (10 ^ j)))).length ≤ 1 + (k + 1) := by
    have h1 : ∀ z : Int, (decI z).length ≤ 1 + (decN z.natAbs).length := fun z => by unfold decI; split <;> simp; omega
    refine Nat.le_trans (h1 _) (Nat.add_le_add_left ?_ 1)
    rw [sgn_natAbs]
    exact decN_len_le (Nat.succ_pos k) (Nat.lt_of_le_of_lt (Nat.div_le_self _ _) (Nat.lt_of_lt_of_le hn (Nat.pow_le_pow_right (by omega) (Nat.le_succ k))))
  have l2 : (decI ((10 ^ j / n.natAbs.gcd (10 ^ j) : Nat) : Int)).length ≤ j + 1 := by
    rw [decI_nat]
    exact decN_len_le (Nat.succ_pos j) (Nat.lt_of_le_of_lt (Nat.div_le_self _ _) (Nat.pow_lt_pow_right (by omega) (Nat.lt_succ_self j)))
  omega
theorem intIs_of {X : ByteArray} {l : List UInt8} {ok : Bool} {n : Int} (hX : X.data.toList = l) (hs : X.size ≤ 1000000) (h1 : (intF l).isSome = ok) (h2 : (intF l).getD 0 = n) : IntIs X ok n := fun W => by
  have h := parseInt_any X W hs
  unfold ParseIntPost at h
  rw [hX, h1, h2] at h
  exact h
theorem numParse_any (s : ByteArray) (w : World) (hs : s.size ≤ 7000) (h : Env w) : Calls Tryz.prog 21 #[.string s] w (GivesT w (decT s.data.toList) (decF s.data.toList).isSome) := by
  have hl := size_data s
  obtain ⟨l, hll⟩ : ∃ l, s.data.toList = l := ⟨_, rfl⟩
  rw [hll] at hl ⊢
  have hsz := pt_size l
  obtain ⟨A, hA⟩ : ∃ A : ByteArray, A = ⟨(decWh l).toArray⟩ := ⟨_, rfl⟩
  obtain ⟨P, hP⟩ : ∃ P : ByteArray, P = ⟨(decPt l).toArray⟩ := ⟨_, rfl⟩
  obtain ⟨D, hD⟩ : ∃ D : ByteArray, D = ⟨(body (decWh l)).toArray⟩ := ⟨_, rfl⟩
  have lA : A.data.toList = decWh l := by rw [hA]
  have lP : P.data.toList = decPt l := by rw [hP]
  have lD : D.data.toList = body (decWh l) := by rw [hD]
  have sA := size_data A
  have sP := size_data P
  have sD := size_data D
  rw [lA] at sA
  rw [lP] at sP
  rw [lD] at sD
  have hcut : CutIs s A P (l.contains 46) := fun W hW => by
    obtain ⟨m, hm⟩ := hW.len
    have h1 := Tryz.strings_Cut s ⟨#[46]⟩ m W (by omega) hm
    have e : Lib.cut s.data.toList (⟨#[46]⟩ : ByteArray).data.toList = (decWh l, decPt l, l.contains 46) := by rw [hll]; exact cut_point _
    rw [e] at h1
    rw [hA, hP]
    exact h1
  have htr : TrimIs A D := fun W => by
    have h1 := Tryz.strings_TrimPrefix A ⟨#[45]⟩ W
    have e : Lib.trimPrefix A.data.toList (⟨#[45]⟩ : ByteArray).data.toList = body (decWh l) := by rw [lA]; exact trim_body _
    rw [e] at h1
    rw [hD]
    exact h1
  have hd45 : ∀ (X : ByteArray) (k : List UInt8) (hX : X.data.toList = k) (h0 : 0 < X.size), X[0].toNat = 45 → k.head? = some 45 := fun X k hX h0 h1 => by
    have := byte_at X 0 h0
    rw [hX, ← List.head?_eq_getElem?] at this
    rw [this]
    exact congrArg some (UInt8.toNat_inj.1 h1)
  have hnil : ∀ (X : ByteArray) (k : List UInt8) (hX : X.data.toList = k), X.size = 0 → k = [] := fun X k hX h1 => by
    have := size_data X
    rw [hX] at this
    exact List.length_eq_zero_iff.1 (by omega)
  have fin : ∀ {x : ByteArray} {ok : Bool}, Calls Tryz.prog 21 #[.string s] w (GivesT w x ok) → decT l = x ∧ (decF l).isSome = ok → Calls Tryz.prog 21 #[.string s] w (GivesT w (decT l) (decF l).isSome) := fun h1 h2 => by rw [h2.1, h2.2]; exact h1
  have rest : ∀ (hpt : l.contains 46 = true → decPt l ≠ [])
      (k1 : D.size = 0 → Calls Tryz.prog 21 #[.string s] w (GivesT w ⟨#[]⟩ false))
      (k2 : ∀ h2 : 0 < D.size, D[0].toNat = 45 → Calls Tryz.prog 21 #[.string s] w (GivesT w ⟨#[]⟩ false))
      (k3 : ∀ (n : Int) (h2 : 0 < D.size), D[0].toNat ≠ 45 → IntIs (A ++ P) false n → Calls Tryz.prog 21 #[.string s] w (GivesT w ⟨#[]⟩ false))
      (k4 : ∀ (Z : ByteArray) (n d : Int) (qq : Rat) (hz : Z.size ≤ 8000) (h2 : 0 < D.size), D[0].toNat ≠ 45 → IntIs (A ++ P) true n → RepIs P.size Z → IntIs ((⟨#[49]⟩ : ByteArray) ++ Z) true d → (∀ (x y : Value) (W : World), IV W x n → IV W y d → Calls Tryz.prog 66 #[x, y] W (GetsQ qq W)) → Hid ((decI qq.num).length + (decI qq.den).length ≤ 1000000000) → Calls Tryz.prog 21 #[.string s] w (GivesT w (TX qq) true)),
      Calls Tryz.prog 21 #[.string s] w (GivesT w (decT l) (decF l).isSome) := fun hpt k1 k2 k3 k4 => by
    by_cases h2 : D.size = 0
    · exact fin (k1 h2) (decT_none (dec_bad2 (.inl (hnil D _ lD h2))))
    have h2' : 0 < D.size := by omega
    by_cases h3 : D[0].toNat = 45
    · exact fin (k2 h2' h3) (decT_none (dec_bad2 (.inr (hd45 D _ lD h2' h3))))
    have hdi := dec_int hpt (fun e => h2 (by rw [← sD, e]; rfl))
    have lX : (A ++ P).data.toList = decWh l ++ decPt l := by rw [ByteArray.data_append, Array.toList_append, lA, lP]
    have sX : (A ++ P).size ≤ 1000000 := by rw [ByteArray.size_append]; omega
    cases hi : intF (decWh l ++ decPt l) with
    | none =>
      rw [hi] at hdi
      exact fin (k3 0 h2' h3 (intIs_of lX sX (by rw [hi]; rfl) (by rw [hi]; rfl))) (decT_none hdi)
    | some n =>
      rw [hi] at hdi
      have hn := intF_lt hi
      obtain ⟨K, hK⟩ : ∃ K, K = 1000 := ⟨_, rfl⟩
      have hlen : (decWh l ++ decPt l).length ≤ 7000 := by rw [List.length_append]; omega
      have hpp : (decPt l).length ≤ 7000 := by omega
      obtain ⟨Z, hZ⟩ : ∃ Z : ByteArray, Z = ⟨(List.replicate P.size (48 : UInt8)).toArray⟩ := ⟨_, rfl⟩
      have lZ : Z.data.toList = List.replicate P.size 48 := by rw [hZ]
      have sZ := size_data Z
      rw [lZ, List.length_replicate] at sZ
      have lY : ((⟨#[49]⟩ : ByteArray) ++ Z).data.toList = 49 :: List.replicate (decPt l).length 48 := by rw [ByteArray.data_append, Array.toList_append, lZ, ← sP]; rfl
      have sY : ((⟨#[49]⟩ : ByteArray) ++ Z).size ≤ 1000000 := by
        rw [ByteArray.size_append]
        have : (⟨#[49]⟩ : ByteArray).size = 1 := rfl
        omega
      have hrep : RepIs P.size Z := fun W => by
        have h1 := Tryz.strings_Repeat ⟨#[48]⟩ P.size W (by omega) (by
          have : (⟨#[48]⟩ : ByteArray).size = 1 := rfl
          rw [this]; omega)
        have e : Lib.repeatL (⟨#[48]⟩ : ByteArray).data.toList P.size = List.replicate P.size 48 := rep_zero _
        rw [e] at h1
        rw [hZ]
        exact h1
      refine fin (k4 Z n ((10 ^ (decPt l).length : Nat) : Int) (Rat.divInt n ((10 ^ (decPt l).length : Nat) : Int)) (by omega) h2' h3 (intIs_of lX sX (by rw [hi]; rfl) (by rw [hi]; rfl)) hrep (intIs_of lY sY (by rw [intF_ten]; rfl) (by rw [intF_ten]; rfl)) (fun x y W hx hy => ?_) (Lib.hid (divInt_size hn (by omega) (by omega)))) (decT_some hdi)
      refine quotient_any x y n _ W hx hy (fit_of (k := K) (ten_words (Nat.le_of_lt hn) (by omega)) (by omega)) (fit_of (k := K) (ten_words (d := (decPt l).length) (by rw [Int.natAbs_natCast]; exact Nat.le_refl _) (by omega)) (by omega)) ?_
      have hp : 0 < 10 ^ (decPt l).length := Nat.pow_pos (by omega)
      omega
  have hAP : A.size + P.size ≤ 8000 := by omega
  by_cases hc : l.contains 46 = true
  · rw [hc] at hcut
    by_cases h0 : P.size = 0
    · exact fin (np_c1 s A P w hcut h h0) (decT_none (dec_bad1 hc (.inl (hnil P _ lP h0))))
    have h0' : 0 < P.size := by omega
    by_cases h1 : P[0].toNat = 45
    · exact fin (np_c2 s A P w hcut h h0' h1) (decT_none (dec_bad1 hc (.inr (hd45 P _ lP h0' h1))))
    exact rest (fun _ e => h0 (by rw [← sP, e]; rfl)) (fun a => np_d1b s A P D w hcut h htr h0' h1 a) (fun a b => np_d2b s A P D w hcut h htr h0' h1 a b)
      (fun n a b d => np_nb s A P D w hcut h n hAP htr h0' h1 a b d) (fun Z n d qq hz a b x1 x2 x3 x4 x5 => np_ob s A P D Z w hcut h n d qq hAP hz htr h0' h1 a b x1 x2 x3 x4 x5)
  · have hf : l.contains 46 = false := by simpa using hc
    rw [hf] at hcut
    exact rest (fun e => absurd e hc) (fun a => np_d1a s A P D w hcut h htr a) (fun a b => np_d2a s A P D w hcut h htr a b)
      (fun n a b d => np_na s A P D w hcut h n hAP htr a b d) (fun Z n d qq hz a b x1 x2 x3 x4 x5 => np_oa s A P D Z w hcut h n d qq hAP hz htr a b x1 x2 x3 x4 x5)
end Go.Proofs.YtgehimcngljmnaaGreatDoor

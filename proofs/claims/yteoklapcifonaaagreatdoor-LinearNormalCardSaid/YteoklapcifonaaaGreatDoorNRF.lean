/- The reference's Mul, Div. -/
import Derived.Test.YteoklapcifonaaaGreatDoorNRE
open Go.Lib (hid)
namespace Go.Proofs.YteoklapcifonaaaGreatDoor
open Go.RowKit Nmx
open Rf
/-- two numbers that the reference reads, in blocks G and H -/
structure TwoP (w wx : World) (G H : Nat) (n1 : Bool) (s1 d1 : ByteArray) (n2 : Bool) (s2 d2 : ByteArray) : Prop where
 ha : wx.heap[G]? = some (.cells #[.bool n1, .string s1, .string d1] 90 (0, 0))
 hb : wx.heap[H]? = some (.cells #[.bool n2, .string s2, .string d2] 90 (0, 0))
 bel : Below w.heap.size w wx
theorem TwoP.far {w wx w1 : World} {G H : Nat} {n1 : Bool} {s1 d1 : ByteArray} {n2 : Bool} {s2 d2 : ByteArray} (h : TwoP w wx G H n1 s1 d1 n2 s2 d2) (hb : Below wx.heap.size wx w1) : TwoP w w1 G H n1 s1 d1 n2 s2 d2 :=
 ⟨(hb.block _ (ab h.ha)).trans h.ha, (hb.block _ (ab h.hb)).trans h.hb, h.bel.trans (hb.mono h.bel.size)⟩
theorem TwoP.drewN {w wx : World} {G H : Nat} {n1 : Bool} {s1 d1 : ByteArray} {n2 : Bool} {s2 d2 : ByteArray} (h : TwoP w wx G H n1 s1 d1 n2 s2 d2) (n : Nat) : TwoP w (wx.drewN n) G H n1 s1 d1 n2 s2 d2 := ⟨h.ha, h.hb, aw h.bel n⟩
theorem TwoP.cells {w wx : World} {G H : Nat} {n1 : Bool} {s1 d1 : ByteArray} {n2 : Bool} {s2 d2 : ByteArray} (h : TwoP w wx G H n1 s1 d1 n2 s2 d2) : wx.cell? ⟨G, 0, none⟩ = some (.bool n1) ∧ wx.cell? ⟨G, 1, none⟩ = some (.string s1) ∧ wx.cell? ⟨G, 2, none⟩ = some (.string d1) ∧ wx.cell? ⟨H, 0, none⟩ = some (.bool n2) ∧ wx.cell? ⟨H, 1, none⟩ = some (.string s2) ∧ wx.cell? ⟨H, 2, none⟩ = some (.string d2) :=
 ⟨aa h.ha 0, aa h.ha 1, aa h.ha 2, aa h.hb 0, aa h.hb 1, aa h.hb 2⟩
theorem TwoP.new {w w1 w2 : World} {n1 : Bool} {s1 d1 : ByteArray} {n2 : Bool} {s2 d2 : ByteArray} (h1 : Below w.heap.size w w1)
    (h2 : Below (w1.alloc (.cells #[.bool n1, .string s1, .string d1] 90)).heap.size (w1.alloc (.cells #[.bool n1, .string s1, .string d1] 90)) w2) :
    TwoP w (w2.alloc (.cells #[.bool n2, .string s2, .string d2] 90)) w1.heap.size w2.heap.size n1 s1 d1 n2 s2 d2 := by
 have h3 := h1.alloc h1.size (.cells #[.bool n1, .string s1, .string d1] 90);have h4 := h3.trans (h2.mono h3.size);have h5 := (h2.block _ (ab (heap_alloc_new w1 _))).trans (heap_alloc_new w1 (.cells #[.bool n1, .string s1, .string d1] 90));exact ⟨(Below.heap_alloc w2 _ _ (ab h5)).trans h5, heap_alloc_new w2 _, h4.alloc h4.size _⟩
theorem bp (x y : Nat) : (af (x * y)).length ≤ (af x).length + (af y).length := by
 refine decN_len_le (by have := decN_len_pos x; omega) ?_;rw [Nat.pow_add];exact Nat.mul_lt_mul_of_lt_of_lt (dec_lt x) (dec_lt y)
section
set_option maxRecDepth 100000
set_option maxHeartbeats 4000000
theorem refMul_left (s t : ByteArray) (w : World) (hs : s.size ≤ 20000) (ht : t.size ≤ 20000) (hq : ap s.data.toList = none) : Calls Tryz.prog 81 #[.string s, .string t] w fun e w' => e = .returned (.string ⟨(on2 mulO s.data.toList t.data.toList).toArray⟩) ∧ Below w.heap.size w w' := by
 have hp := bS s (by omega) hq w;have HI := hid (on2_left (f := mulO) (b := t.data.toList) hq);cases hr : ap t.data.toList with
 | none =>
   have hr := fun W => bS t (by omega) hr W
   clear hq
   go_enter Tryz.func81, Tryz.ntmps81
   go_wp2_with fail
   refine hp.mono ?_;rintro e w1 ⟨rfl, hb1⟩;have HB := hid (hb1.alloc hb1.size (.cells #[.bool false, .string ⟨#[]⟩, .string ⟨#[]⟩] 90));clear hb1 hp
   go_wp2_with fail
   refine (hr _).mono ?_;rintro e w2 ⟨rfl, hb2⟩;have HB2 := hid (HB.out.trans (hb2.mono HB.out.size));clear hb2 hr
   go_wp2
   go_ret
   exact ⟨au (by rw [HI.out]), HB2.out.alloc HB2.out.size _⟩
 | some q =>
   obtain ⟨n2, s2, d2, -, -, -, hr⟩ := aH t (by omega) hr;clear hq
   go_enter Tryz.func81, Tryz.ntmps81
   go_wp2_with fail
   refine hp.mono ?_;rintro e w1 ⟨rfl, hb1⟩;have HB := hid (hb1.alloc hb1.size (.cells #[.bool false, .string ⟨#[]⟩, .string ⟨#[]⟩] 90));clear hb1 hp
   go_wp2_with fail
   refine (hr _).mono ?_;rintro e w2 ⟨rfl, hb2⟩;have HB2 := hid (HB.out.trans (hb2.mono HB.out.size));clear hb2 hr
   go_wp2
   go_ret
   exact ⟨au (by rw [HI.out]), HB2.out.alloc HB2.out.size _⟩
theorem refMul_right (s t : ByteArray) (w : World) (hs : s.size ≤ 20000) (ht : t.size ≤ 20000) {p : Rat} (hp : ap s.data.toList = some p) (hq : ap t.data.toList = none) : Calls Tryz.prog 81 #[.string s, .string t] w fun e w' => e = .returned (.string ⟨(on2 mulO s.data.toList t.data.toList).toArray⟩) ∧ Below w.heap.size w w' := by
 obtain ⟨n1, s1, d1, -, -, -, hp⟩ := aH s (by omega) hp;have hp := hp w;have hr := fun W => bS t (by omega) hq W
 have HI := hid (on2_right (f := mulO) (a := s.data.toList) hq);clear hq
 go_enter Tryz.func81, Tryz.ntmps81
 go_wp2_with fail
 refine hp.mono ?_;rintro e w1 ⟨rfl, hb1⟩;have HB := hid (hb1.alloc hb1.size (.cells #[.bool n1, .string s1, .string d1] 90));clear hb1 hp
 go_wp2_with fail
 refine (hr _).mono ?_;rintro e w2 ⟨rfl, hb2⟩;have HB2 := hid (HB.out.trans (hb2.mono HB.out.size));clear hb2 hr
 go_wp2
 go_ret
 exact ⟨au (by rw [HI.out]), HB2.out.alloc HB2.out.size _⟩
theorem refMul_both (s t : ByteArray) (w : World) (hs : s.size ≤ 20000) (ht : t.size ≤ 20000) {p q : Rat} (hp0 : ap s.data.toList = some p) (hq0 : ap t.data.toList = some q) : Calls Tryz.prog 81 #[.string s, .string t] w fun e w' => e = .returned (.string ⟨(on2 mulO s.data.toList t.data.toList).toArray⟩) ∧ Below w.heap.size w w' := by
 have HI : Hid (on2 mulO s.data.toList t.data.toList = aK (p * q)) := hid (by rw [bI hp0 hq0]; rfl);obtain ⟨n1, s1, d1, hP, hs1, hd1, hp⟩ := aH s (by omega) hp0;obtain ⟨n2, s2, d2, hQ, hs2, hd2, hr⟩ := aH t (by omega) hq0;have hp := hp w;have hm1 := fun W => aV s1 s2 _ _ W hP.2.1 hQ.2.1 (by omega) (by omega)
 have hm2 := fun W => aV d1 d2 _ _ W hP.2.2 hQ.2.2 (by omega) (by omega)
 have l1 : (af (p.num.natAbs * q.num.natAbs)).length ≤ 40000 := Nat.le_trans (bp _ _) (by rw [← hP.2.1, ← hQ.2.1, size_data, size_data]; omega);have l2 : (af (p.den * q.den)).length ≤ 40000 := Nat.le_trans (bp _ _) (by rw [← hP.2.2, ← hQ.2.2, size_data, size_data]; omega);have HRQ : Hid (redQ (n1 != n2) (p.num.natAbs * q.num.natAbs) (p.den * q.den) = p * q) := hid (by rw [hP.1, hQ.1]; exact redQ_mul p q);have hden : 0 < p.den * q.den := Nat.mul_pos p.den_pos q.den_pos;generalize p.num.natAbs * q.num.natAbs = X at *;generalize p.den * q.den = Y at *;have hrd := fun W => refReduce_any (n1 != n2) ⟨(af X).toArray⟩ ⟨(af Y).toArray⟩ X Y W rfl rfl (by rw [sz_txt]; omega) (by rw [sz_txt]; omega) hden
 obtain ⟨m1, m2⟩ := redQ_le (n1 != n2) X Y hden;rw [HRQ.out] at hrd m1 m2;have htx := fun W => refText_any (p * q) W (aL (n := 1000000) (by omega) m1) (aL (n := 1000000) (by omega) m2)
 clear m1 m2 l1 l2 hden hP hQ hp0 hq0 HRQ;unfold ratV at hrd htx;generalize p * q = qq at *;generalize (⟨(af X).toArray⟩ : ByteArray) = px at *;generalize (⟨(af Y).toArray⟩ : ByteArray) = py at *
 go_enter Tryz.func81, Tryz.ntmps81
 go_wp2_with fail
 refine hp.mono ?_;rintro e w1 ⟨rfl, hb1⟩;have HB1 := hid hb1;clear hb1 hp
 go_wp2_with fail
 refine (hr _).mono ?_;rintro e w2 ⟨rfl, hb2⟩;have HT := hid (TwoP.new (n2 := n2) (s2 := s2) (d2 := d2) HB1.out hb2);clear hb2 hr
 go_wp2_with fail
 generalize (w2.alloc (.cells #[.bool n2, .string s2, .string d2] 90)) = w3 at *;generalize w1.heap.size = G at *;generalize w2.heap.size = H at *;have K0 := HT.out.cells
 go_region_held3 (fun w' => w'.cell? ⟨G, 0, none⟩ = some (.bool n1) ∧ w'.cell? ⟨G, 1, none⟩ = some (.string s1) ∧ w'.cell? ⟨G, 2, none⟩ = some (.string d1) ∧ w'.cell? ⟨H, 0, none⟩ = some (.bool n2) ∧ w'.cell? ⟨H, 1, none⟩ = some (.string s2) ∧ w'.cell? ⟨H, 2, none⟩ = some (.string d2))
  (first | exact K0 | exact K1 | exact K2 | exact K3 | exact K4 | go_keep)
  (first
    | (go_at_call 59
       first
        | (with_reducible refine (hm1 _).mono ?_
           rintro e w4 ⟨rfl, hb4⟩;have HT1 := hid ((HT.out.drewN _).far hb4)
           have K1 := HT1.out.cells)
        | (with_reducible refine (hm2 _).mono ?_
           rintro e w5 ⟨rfl, hb5⟩;have HT2 := hid (HT1.out.far hb5)
           have K2 := HT2.out.cells))
    | (go_at_call 58
       refine (hrd _).mono ?_;rintro e w6 ⟨rfl, hb6⟩;have HT3 := hid (HT2.out.far hb6)
       have K3 := HT3.out.cells)
    | (go_at_call 60
       refine (htx _).mono ?_;rintro e w7 ⟨rfl, hb7⟩;have HT4 := hid (HT3.out.far hb7)
       have K4 := HT4.out.cells))
 go_wp2
 go_ret
 exact ⟨au (by rw [HI.out]), HT4.out.bel⟩
theorem refMul_any (s t : ByteArray) (w : World) (hs : s.size ≤ 20000) (ht : t.size ≤ 20000) : Calls Tryz.prog 81 #[.string s, .string t] w fun e w' => e = .returned (.string ⟨(on2 mulO s.data.toList t.data.toList).toArray⟩) ∧ Below w.heap.size w w' := by
 cases hp : ap s.data.toList with
 | none => exact refMul_left s t w hs ht hp
 | some p =>
   cases hq : ap t.data.toList with
   | none => exact refMul_right s t w hs ht hp hq
   | some q =>
     exact refMul_both s t w hs ht hp hq
theorem refDiv_left (s t : ByteArray) (w : World) (hs : s.size ≤ 20000) (ht : t.size ≤ 20000) (hq : ap s.data.toList = none) : Calls Tryz.prog 22 #[.string s, .string t] w fun e w' => e = .returned (.string ⟨(on2 divO s.data.toList t.data.toList).toArray⟩) ∧ Below w.heap.size w w' := by
 have hp := bS s (by omega) hq w;have HI := hid (on2_left (f := divO) (b := t.data.toList) hq);cases hr : ap t.data.toList with
 | none =>
   have hr := fun W => bS t (by omega) hr W
   clear hq
   go_enter Tryz.func22, Tryz.ntmps22
   go_wp2_with fail
   refine hp.mono ?_;rintro e w1 ⟨rfl, hb1⟩;have HB := hid (hb1.alloc hb1.size (.cells #[.bool false, .string ⟨#[]⟩, .string ⟨#[]⟩] 90));clear hb1 hp
   go_wp2_with fail
   refine (hr _).mono ?_;rintro e w2 ⟨rfl, hb2⟩;have HB2 := hid (HB.out.trans (hb2.mono HB.out.size));clear hb2 hr
   go_wp2
   go_ret
   exact ⟨au (by rw [HI.out]), HB2.out.alloc HB2.out.size _⟩
 | some q =>
   obtain ⟨n2, s2, d2, -, -, -, hr⟩ := aH t (by omega) hr;clear hq
   go_enter Tryz.func22, Tryz.ntmps22
   go_wp2_with fail
   refine hp.mono ?_;rintro e w1 ⟨rfl, hb1⟩;have HB := hid (hb1.alloc hb1.size (.cells #[.bool false, .string ⟨#[]⟩, .string ⟨#[]⟩] 90));clear hb1 hp
   go_wp2_with fail
   refine (hr _).mono ?_;rintro e w2 ⟨rfl, hb2⟩;have HB2 := hid (HB.out.trans (hb2.mono HB.out.size));clear hb2 hr
   go_wp2
   go_ret
   exact ⟨au (by rw [HI.out]), HB2.out.alloc HB2.out.size _⟩
theorem refDiv_right (s t : ByteArray) (w : World) (hs : s.size ≤ 20000) (ht : t.size ≤ 20000) {p : Rat} (hp : ap s.data.toList = some p) (hq : ap t.data.toList = none) : Calls Tryz.prog 22 #[.string s, .string t] w fun e w' => e = .returned (.string ⟨(on2 divO s.data.toList t.data.toList).toArray⟩) ∧ Below w.heap.size w w' := by
 obtain ⟨n1, s1, d1, -, -, -, hp⟩ := aH s (by omega) hp;have hp := hp w;have hr := fun W => bS t (by omega) hq W
 have HI := hid (on2_right (f := divO) (a := s.data.toList) hq);clear hq
 go_enter Tryz.func22, Tryz.ntmps22
 go_wp2_with fail
 refine hp.mono ?_;rintro e w1 ⟨rfl, hb1⟩;have HB := hid (hb1.alloc hb1.size (.cells #[.bool n1, .string s1, .string d1] 90));clear hb1 hp
 go_wp2_with fail
 refine (hr _).mono ?_;rintro e w2 ⟨rfl, hb2⟩;have HB2 := hid (HB.out.trans (hb2.mono HB.out.size));clear hb2 hr
 go_wp2
 go_ret
 exact ⟨au (by rw [HI.out]), HB2.out.alloc HB2.out.size _⟩
theorem refDiv_zero (s t : ByteArray) (w : World) (hs : s.size ≤ 20000) (ht : t.size ≤ 20000) {p q : Rat} (hp0 : ap s.data.toList = some p) (hq0 : ap t.data.toList = some q) (h0 : q.num = 0) : Calls Tryz.prog 22 #[.string s, .string t] w fun e w' => e = .returned (.string ⟨(on2 divO s.data.toList t.data.toList).toArray⟩) ∧ Below w.heap.size w w' := by
 have HI : Hid (on2 divO s.data.toList t.data.toList = []) := hid (by rw [bI hp0 hq0]; unfold divO; rw [if_pos h0]; rfl);obtain ⟨n1, s1, d1, hP, hs1, hd1, hp⟩ := aH s (by omega) hp0;obtain ⟨n2, s2, d2, hQ, hs2, hd2, hr⟩ := aH t (by omega) hq0;have hp := hp w;have hz := hQ.zero;rw [decide_eq_true h0] at hz;clear hP hQ hp0 hq0 h0
 go_enter Tryz.func22, Tryz.ntmps22
 go_wp2_with fail
 refine hp.mono ?_;rintro e w1 ⟨rfl, hb1⟩;have HB1 := hid hb1;clear hb1 hp
 go_wp2_with fail
 refine (hr _).mono ?_;rintro e w2 ⟨rfl, hb2⟩;have HT := hid (TwoP.new (n2 := n2) (s2 := s2) (d2 := d2) HB1.out hb2);clear hb2 hr
 go_wp2
 go_ret
 exact ⟨au (by rw [HI.out]), HT.out.bel⟩
theorem refDiv_both (s t : ByteArray) (w : World) (hs : s.size ≤ 20000) (ht : t.size ≤ 20000) {p q : Rat} (hp0 : ap s.data.toList = some p) (hq0 : ap t.data.toList = some q) (h0 : q.num ≠ 0) : Calls Tryz.prog 22 #[.string s, .string t] w fun e w' => e = .returned (.string ⟨(on2 divO s.data.toList t.data.toList).toArray⟩) ∧ Below w.heap.size w w' := by
 have HI : Hid (on2 divO s.data.toList t.data.toList = aK (p / q)) := hid (by rw [bI hp0 hq0]; unfold divO; rw [if_neg h0]; rfl);obtain ⟨n1, s1, d1, hP, hs1, hd1, hp⟩ := aH s (by omega) hp0;obtain ⟨n2, s2, d2, hQ, hs2, hd2, hr⟩ := aH t (by omega) hq0;have hp := hp w;have hz := hQ.zero;rw [decide_eq_false h0] at hz;have hm1 := fun W => aV s1 d2 _ _ W hP.2.1 hQ.2.2 (by omega) (by omega)
 have hm2 := fun W => aV d1 s2 _ _ W hP.2.2 hQ.2.1 (by omega) (by omega)
 have l1 : (af (p.num.natAbs * q.den)).length ≤ 40000 := Nat.le_trans (bp _ _) (by rw [← hP.2.1, ← hQ.2.2, size_data, size_data]; omega);have l2 : (af (p.den * q.num.natAbs)).length ≤ 40000 := Nat.le_trans (bp _ _) (by rw [← hP.2.2, ← hQ.2.1, size_data, size_data]; omega);have HRQ : Hid (redQ (n1 != n2) (p.num.natAbs * q.den) (p.den * q.num.natAbs) = p / q) := hid (by rw [hP.1, hQ.1]; exact redQ_div p q h0);have hden : 0 < p.den * q.num.natAbs := Nat.mul_pos p.den_pos (by omega);generalize p.num.natAbs * q.den = X at *;generalize p.den * q.num.natAbs = Y at *;have hrd := fun W => refReduce_any (n1 != n2) ⟨(af X).toArray⟩ ⟨(af Y).toArray⟩ X Y W rfl rfl (by rw [sz_txt]; omega) (by rw [sz_txt]; omega) hden
 obtain ⟨m1, m2⟩ := redQ_le (n1 != n2) X Y hden;rw [HRQ.out] at hrd m1 m2;have htx := fun W => refText_any (p / q) W (aL (n := 1000000) (by omega) m1) (aL (n := 1000000) (by omega) m2)
 clear m1 m2 l1 l2 hden hP hQ hp0 hq0 HRQ h0;unfold ratV at hrd htx;generalize p / q = qq at *;generalize (⟨(af X).toArray⟩ : ByteArray) = px at *;generalize (⟨(af Y).toArray⟩ : ByteArray) = py at *
 go_enter Tryz.func22, Tryz.ntmps22
 go_wp2_with fail
 refine hp.mono ?_;rintro e w1 ⟨rfl, hb1⟩;have HB1 := hid hb1;clear hb1 hp
 go_wp2_with fail
 refine (hr _).mono ?_;rintro e w2 ⟨rfl, hb2⟩;have HT := hid (TwoP.new (n2 := n2) (s2 := s2) (d2 := d2) HB1.out hb2);clear hb2 hr
 go_wp2_with fail
 generalize (w2.alloc (.cells #[.bool n2, .string s2, .string d2] 90)) = w3 at *;generalize w1.heap.size = G at *;generalize w2.heap.size = H at *;have K0 := HT.out.cells
 go_region_held3 (fun w' => w'.cell? ⟨G, 0, none⟩ = some (.bool n1) ∧ w'.cell? ⟨G, 1, none⟩ = some (.string s1) ∧ w'.cell? ⟨G, 2, none⟩ = some (.string d1) ∧ w'.cell? ⟨H, 0, none⟩ = some (.bool n2) ∧ w'.cell? ⟨H, 1, none⟩ = some (.string s2) ∧ w'.cell? ⟨H, 2, none⟩ = some (.string d2))
  (first | exact K0 | exact K1 | exact K2 | exact K3 | exact K4 | go_keep)
  (first
    | (go_at_call 59
       first
        | (with_reducible refine (hm1 _).mono ?_
           rintro e w4 ⟨rfl, hb4⟩;have HT1 := hid ((HT.out.drewN _).far hb4)
           have K1 := HT1.out.cells)
        | (with_reducible refine (hm2 _).mono ?_
           rintro e w5 ⟨rfl, hb5⟩;have HT2 := hid (HT1.out.far hb5)
           have K2 := HT2.out.cells))
    | (go_at_call 58
       refine (hrd _).mono ?_;rintro e w6 ⟨rfl, hb6⟩;have HT3 := hid (HT2.out.far hb6)
       have K3 := HT3.out.cells)
    | (go_at_call 60
       refine (htx _).mono ?_;rintro e w7 ⟨rfl, hb7⟩;have HT4 := hid (HT3.out.far hb7)
       have K4 := HT4.out.cells))
 go_wp2
 go_ret
 exact ⟨au (by rw [HI.out]), HT4.out.bel⟩
theorem refDiv_any (s t : ByteArray) (w : World) (hs : s.size ≤ 20000) (ht : t.size ≤ 20000) : Calls Tryz.prog 22 #[.string s, .string t] w fun e w' => e = .returned (.string ⟨(on2 divO s.data.toList t.data.toList).toArray⟩) ∧ Below w.heap.size w w' := by
 cases hp : ap s.data.toList with
 | none => exact refDiv_left s t w hs ht hp
 | some p =>
   cases hq : ap t.data.toList with
   | none => exact refDiv_right s t w hs ht hp hq
   | some q =>
     by_cases h0 : q.num = 0
     · exact refDiv_zero s t w hs ht hp hq h0
     · exact refDiv_both s t w hs ht hp hq h0
end
end Go.Proofs.YteoklapcifonaaaGreatDoor
namespace Go.Proofs.YteoklapcifonaaaGreatDoor
open Go.RowKit Nmx
open Rf
theorem dec_len_add {x y k : Nat} (hx : (af x).length ≤ k) (hy : (af y).length ≤ k) : (af (x + y)).length ≤ k + 1 := by
 refine decN_len_le (by omega) ?_;have h1 := Nat.lt_of_lt_of_le (dec_lt x) (ten_le hx);have h2 := Nat.lt_of_lt_of_le (dec_lt y) (ten_le hy);have h4 : 10 ^ (k + 1) = 10 * 10 ^ k := Nat.pow_succ'
 omega
section
set_option maxRecDepth 100000
set_option maxHeartbeats 4000000
theorem refAdd_left (s t : ByteArray) (w : World) (hs : s.size ≤ 20000) (ht : t.size ≤ 20000) (hq : ap s.data.toList = none) : Calls Tryz.prog 85 #[.string s, .string t] w fun e w' => e = .returned (.string ⟨(on2 addO s.data.toList t.data.toList).toArray⟩) ∧ Below w.heap.size w w' := by
 have hp := bS s (by omega) hq w;have HI := hid (on2_left (f := addO) (b := t.data.toList) hq);cases hr : ap t.data.toList with
 | none =>
   have hr := fun W => bS t (by omega) hr W
   clear hq
   go_enter Tryz.func85, Tryz.ntmps85
   go_wp2_with fail
   refine hp.mono ?_;rintro e w1 ⟨rfl, hb1⟩;have HB := hid (hb1.alloc hb1.size (.cells #[.bool false, .string ⟨#[]⟩, .string ⟨#[]⟩] 90));clear hb1 hp
   go_wp2_with fail
   refine (hr _).mono ?_;rintro e w2 ⟨rfl, hb2⟩;have HB2 := hid (HB.out.trans (hb2.mono HB.out.size));clear hb2 hr
   go_wp2
   go_ret
   exact ⟨au (by rw [HI.out]), HB2.out.alloc HB2.out.size _⟩
 | some q =>
   obtain ⟨n2, s2, d2, -, -, -, hr⟩ := aH t (by omega) hr;clear hq
   go_enter Tryz.func85, Tryz.ntmps85
   go_wp2_with fail
   refine hp.mono ?_;rintro e w1 ⟨rfl, hb1⟩;have HB := hid (hb1.alloc hb1.size (.cells #[.bool false, .string ⟨#[]⟩, .string ⟨#[]⟩] 90));clear hb1 hp
   go_wp2_with fail
   refine (hr _).mono ?_;rintro e w2 ⟨rfl, hb2⟩;have HB2 := hid (HB.out.trans (hb2.mono HB.out.size));clear hb2 hr
   go_wp2
   go_ret
   exact ⟨au (by rw [HI.out]), HB2.out.alloc HB2.out.size _⟩
theorem refAdd_right (s t : ByteArray) (w : World) (hs : s.size ≤ 20000) (ht : t.size ≤ 20000) {p : Rat} (hp : ap s.data.toList = some p) (hq : ap t.data.toList = none) : Calls Tryz.prog 85 #[.string s, .string t] w fun e w' => e = .returned (.string ⟨(on2 addO s.data.toList t.data.toList).toArray⟩) ∧ Below w.heap.size w w' := by
 obtain ⟨n1, s1, d1, -, -, -, hp⟩ := aH s (by omega) hp;have hp := hp w;have hr := fun W => bS t (by omega) hq W
 have HI := hid (on2_right (f := addO) (a := s.data.toList) hq);clear hq
 go_enter Tryz.func85, Tryz.ntmps85
 go_wp2_with fail
 refine hp.mono ?_;rintro e w1 ⟨rfl, hb1⟩;have HB := hid (hb1.alloc hb1.size (.cells #[.bool n1, .string s1, .string d1] 90));clear hb1 hp
 go_wp2_with fail
 refine (hr _).mono ?_;rintro e w2 ⟨rfl, hb2⟩;have HB2 := hid (HB.out.trans (hb2.mono HB.out.size));clear hb2 hr
 go_wp2
 go_ret
 exact ⟨au (by rw [HI.out]), HB2.out.alloc HB2.out.size _⟩
theorem refAdd_same (s t : ByteArray) (w : World) (hs : s.size ≤ 20000) (ht : t.size ≤ 20000) {p q : Rat} (hp0 : ap s.data.toList = some p) (hq0 : ap t.data.toList = some q) (heq : ∀ a b, a = decide (p.num < 0) → b = decide (q.num < 0) → a = b) : Calls Tryz.prog 85 #[.string s, .string t] w fun e w' => e = .returned (.string ⟨(on2 addO s.data.toList t.data.toList).toArray⟩) ∧ Below w.heap.size w w' := by
 have HI : Hid (on2 addO s.data.toList t.data.toList = aK (p + q)) := hid (by rw [bI hp0 hq0]; rfl);obtain ⟨n1, s1, d1, hP, hs1, hd1, hp⟩ := aH s (by omega) hp0;obtain ⟨n2, s2, d2, hQ, hs2, hd2, hr⟩ := aH t (by omega) hq0;have hp := hp w;have hm1 := fun W => aV s1 d2 _ _ W hP.2.1 hQ.2.2 (by omega) (by omega)
 have hm2 := fun W => aV s2 d1 _ _ W hQ.2.1 hP.2.2 (by omega) (by omega)
 have hm3 := fun W => aV d1 d2 _ _ W hP.2.2 hQ.2.2 (by omega) (by omega)
 have l1 : (af (p.num.natAbs * q.den)).length ≤ 40000 := Nat.le_trans (bp _ _) (by rw [← hP.2.1, ← hQ.2.2, size_data, size_data]; omega);have l2 : (af (q.num.natAbs * p.den)).length ≤ 40000 := Nat.le_trans (bp _ _) (by rw [← hQ.2.1, ← hP.2.2, size_data, size_data]; omega);have l3 : (af (p.den * q.den)).length ≤ 40000 := Nat.le_trans (bp _ _) (by rw [← hP.2.2, ← hQ.2.2, size_data, size_data]; omega);have hden : 0 < p.den * q.den := Nat.mul_pos p.den_pos q.den_pos;have HRQ : Hid (redQ n1 (p.num.natAbs * q.den + q.num.natAbs * p.den) (p.den * q.den) = p + q) := hid (by rw [hP.1]; exact redQ_same p q (by rw [← hP.1, ← hQ.1]; exact (heq n1 n2 hP.1 hQ.1)));have hbe : (n1 == n2) = true := by simpa using heq n1 n2 hP.1 hQ.1
 clear heq;generalize p.num.natAbs * q.den = X at *;generalize q.num.natAbs * p.den = Y at *;generalize p.den * q.den = D at *;have hop := fun W => refAddMag_any ⟨(af X).toArray⟩ ⟨(af Y).toArray⟩ X Y W rfl rfl (by rw [sz_txt]; omega) (by rw [sz_txt]; omega)
 have l4 : (af (X + Y)).length ≤ 40001 := dec_len_add l1 l2;generalize X + Y = Z at *;have hrd := fun W => refReduce_any n1 ⟨(af Z).toArray⟩ ⟨(af D).toArray⟩ Z D W rfl rfl (by rw [sz_txt]; omega) (by rw [sz_txt]; omega) hden
 obtain ⟨m1, m2⟩ := redQ_le n1 Z D hden;rw [HRQ.out] at hrd m1 m2;have htx := fun W => refText_any (p + q) W (aL (n := 1000000) (by omega) m1) (aL (n := 1000000) (by omega) m2)
 clear m1 m2 l1 l2 l3 l4 hden hP hQ hp0 hq0 HRQ;unfold ratV at hrd htx;generalize p + q = qq at *;generalize (⟨(af X).toArray⟩ : ByteArray) = px at *;generalize (⟨(af Y).toArray⟩ : ByteArray) = py at *;generalize (⟨(af D).toArray⟩ : ByteArray) = pd at *;generalize (⟨(af Z).toArray⟩ : ByteArray) = pz at *
 go_enter Tryz.func85, Tryz.ntmps85
 go_wp2_with fail
 refine hp.mono ?_;rintro e w1 ⟨rfl, hb1⟩;have HB1 := hid hb1;clear hb1 hp
 go_wp2_with fail
 refine (hr _).mono ?_;rintro e w2 ⟨rfl, hb2⟩;have HT := hid (TwoP.new (n2 := n2) (s2 := s2) (d2 := d2) HB1.out hb2);clear hb2 hr
 go_wp2_with fail
 generalize (w2.alloc (.cells #[.bool n2, .string s2, .string d2] 90)) = w3 at *;generalize w1.heap.size = G at *;generalize w2.heap.size = H at *;have K0 := HT.out.cells
 go_region_held3 (fun w' => w'.cell? ⟨G, 0, none⟩ = some (.bool n1) ∧ w'.cell? ⟨G, 1, none⟩ = some (.string s1) ∧ w'.cell? ⟨G, 2, none⟩ = some (.string d1) ∧ w'.cell? ⟨H, 0, none⟩ = some (.bool n2) ∧ w'.cell? ⟨H, 1, none⟩ = some (.string s2) ∧ w'.cell? ⟨H, 2, none⟩ = some (.string d2))
  (first | exact K0 | exact K1 | exact K2 | exact K3 | go_keep)
  (first
    | (go_at_call 59
       first
        | (with_reducible refine (hm1 _).mono ?_
           rintro e w4 ⟨rfl, hb4⟩;have HT1 := hid ((HT.out.drewN _).far hb4)
           have K1 := HT1.out.cells)
        | (with_reducible refine (hm2 _).mono ?_
           rintro e w5 ⟨rfl, hb5⟩;have HT2 := hid (HT1.out.far hb5)
           have K2 := HT2.out.cells)
        | (with_reducible refine (hm3 _).mono ?_
           rintro e w6 ⟨rfl, hb6⟩;have HT3 := hid (HT2.out.far hb6)
           have K3 := HT3.out.cells)))
 clear hm1 hm2 hm3 K0 K1 K2;obtain ⟨y0, y1, y2, y3, y4, y5⟩ := K3
 go_wp2_with fail
 have K3 : w6.cell? ⟨G, 0, none⟩ = some (.bool n1) ∧ w6.cell? ⟨G, 1, none⟩ = some (.string s1) ∧ w6.cell? ⟨G, 2, none⟩ = some (.string d1) ∧ w6.cell? ⟨H, 0, none⟩ = some (.bool n2) ∧ w6.cell? ⟨H, 1, none⟩ = some (.string s2) ∧ w6.cell? ⟨H, 2, none⟩ = some (.string d2) := ⟨y0, y1, y2, y3, y4, y5⟩
 clear y0 y1 y2 y3 y4 y5
 go_region_held3 (fun w' => w'.cell? ⟨G, 0, none⟩ = some (.bool n1) ∧ w'.cell? ⟨G, 1, none⟩ = some (.string s1) ∧ w'.cell? ⟨G, 2, none⟩ = some (.string d1) ∧ w'.cell? ⟨H, 0, none⟩ = some (.bool n2) ∧ w'.cell? ⟨H, 1, none⟩ = some (.string s2) ∧ w'.cell? ⟨H, 2, none⟩ = some (.string d2))
  (first | exact K3 | exact K5 | exact K6 | exact K7 | go_keep)
  (first
    | (go_at_call 138
       refine (hop _).mono ?_;rintro e w8 ⟨rfl, hb8⟩;have HT5 := hid ((HT3.out.drewN _).far hb8)
       have K5 := HT5.out.cells)
    | (go_at_call 58
       refine (hrd _).mono ?_;rintro e w9 ⟨rfl, hb9⟩;have HT6 := hid (HT5.out.far hb9)
       have K6 := HT6.out.cells)
    | (go_at_call 60
       refine (htx _).mono ?_;rintro e w10 ⟨rfl, hb10⟩;have HT7 := hid (HT6.out.far hb10)
       have K7 := HT7.out.cells))
 go_wp2
 go_ret
 exact ⟨au (by rw [HI.out]), HT7.out.bel⟩
theorem refAdd_more (s t : ByteArray) (w : World) (hs : s.size ≤ 20000) (ht : t.size ≤ 20000) {p q : Rat} (hp0 : ap s.data.toList = some p) (hq0 : ap t.data.toList = some q) (hne : decide (p.num < 0) ≠ decide (q.num < 0)) (hle : q.num.natAbs * p.den ≤ p.num.natAbs * q.den) : Calls Tryz.prog 85 #[.string s, .string t] w fun e w' => e = .returned (.string ⟨(on2 addO s.data.toList t.data.toList).toArray⟩) ∧ Below w.heap.size w w' := by
 have HI : Hid (on2 addO s.data.toList t.data.toList = aK (p + q)) := hid (by rw [bI hp0 hq0]; rfl);obtain ⟨n1, s1, d1, hP, hs1, hd1, hp⟩ := aH s (by omega) hp0;obtain ⟨n2, s2, d2, hQ, hs2, hd2, hr⟩ := aH t (by omega) hq0;have hp := hp w;have hm1 := fun W => aV s1 d2 _ _ W hP.2.1 hQ.2.2 (by omega) (by omega)
 have hm2 := fun W => aV s2 d1 _ _ W hQ.2.1 hP.2.2 (by omega) (by omega)
 have hm3 := fun W => aV d1 d2 _ _ W hP.2.2 hQ.2.2 (by omega) (by omega)
 have l1 : (af (p.num.natAbs * q.den)).length ≤ 40000 := Nat.le_trans (bp _ _) (by rw [← hP.2.1, ← hQ.2.2, size_data, size_data]; omega);have l2 : (af (q.num.natAbs * p.den)).length ≤ 40000 := Nat.le_trans (bp _ _) (by rw [← hQ.2.1, ← hP.2.2, size_data, size_data]; omega);have l3 : (af (p.den * q.den)).length ≤ 40000 := Nat.le_trans (bp _ _) (by rw [← hP.2.2, ← hQ.2.2, size_data, size_data]; omega);have hden : 0 < p.den * q.den := Nat.mul_pos p.den_pos q.den_pos
 have hbe : (n1 == n2) = false := by
  rw [hP.1, hQ.1]; simpa using hne
 have HRQ : Hid (redQ n1 (p.num.natAbs * q.den - q.num.natAbs * p.den) (p.den * q.den) = p + q) := hid (by rw [hP.1]; exact redQ_more p q hne hle);clear hne;generalize p.num.natAbs * q.den = X at *;generalize q.num.natAbs * p.den = Y at *;generalize p.den * q.den = D at *;have hop := fun W => refSubMag_any ⟨(af X).toArray⟩ ⟨(af Y).toArray⟩ X Y W rfl rfl (by rw [sz_txt]; omega) (by omega)
 have l4 : (af (X - Y)).length ≤ 40001 := aL (d := X) (by omega) (by omega);generalize X - Y = Z at *;have hrd := fun W => refReduce_any n1 ⟨(af Z).toArray⟩ ⟨(af D).toArray⟩ Z D W rfl rfl (by rw [sz_txt]; omega) (by rw [sz_txt]; omega) hden
 obtain ⟨m1, m2⟩ := redQ_le n1 Z D hden;rw [HRQ.out] at hrd m1 m2;have htx := fun W => refText_any (p + q) W (aL (n := 1000000) (by omega) m1) (aL (n := 1000000) (by omega) m2)
 have hcm := fun W => refCmpMag_any ⟨(af X).toArray⟩ ⟨(af Y).toArray⟩ X Y W rfl rfl
 have hcn : 0 ≤ cmpN X Y := by unfold cmpN; split <;> (try split) <;> omega
 generalize cmpN X Y = cc at *;clear hle;clear m1 m2 l1 l2 l3 l4 hden hP hQ hp0 hq0 HRQ;unfold ratV at hrd htx;generalize p + q = qq at *;generalize (⟨(af X).toArray⟩ : ByteArray) = px at *;generalize (⟨(af Y).toArray⟩ : ByteArray) = py at *;generalize (⟨(af D).toArray⟩ : ByteArray) = pd at *;generalize (⟨(af Z).toArray⟩ : ByteArray) = pz at *
 go_enter Tryz.func85, Tryz.ntmps85
 go_wp2_with fail
 refine hp.mono ?_;rintro e w1 ⟨rfl, hb1⟩;have HB1 := hid hb1;clear hb1 hp
 go_wp2_with fail
 refine (hr _).mono ?_;rintro e w2 ⟨rfl, hb2⟩;have HT := hid (TwoP.new (n2 := n2) (s2 := s2) (d2 := d2) HB1.out hb2);clear hb2 hr
 go_wp2_with fail
 generalize (w2.alloc (.cells #[.bool n2, .string s2, .string d2] 90)) = w3 at *;generalize w1.heap.size = G at *;generalize w2.heap.size = H at *;have K0 := HT.out.cells
 go_region_held3 (fun w' => w'.cell? ⟨G, 0, none⟩ = some (.bool n1) ∧ w'.cell? ⟨G, 1, none⟩ = some (.string s1) ∧ w'.cell? ⟨G, 2, none⟩ = some (.string d1) ∧ w'.cell? ⟨H, 0, none⟩ = some (.bool n2) ∧ w'.cell? ⟨H, 1, none⟩ = some (.string s2) ∧ w'.cell? ⟨H, 2, none⟩ = some (.string d2))
  (first | exact K0 | exact K1 | exact K2 | exact K3 | go_keep)
  (first
    | (go_at_call 59
       first
        | (with_reducible refine (hm1 _).mono ?_
           rintro e w4 ⟨rfl, hb4⟩;have HT1 := hid ((HT.out.drewN _).far hb4)
           have K1 := HT1.out.cells)
        | (with_reducible refine (hm2 _).mono ?_
           rintro e w5 ⟨rfl, hb5⟩;have HT2 := hid (HT1.out.far hb5)
           have K2 := HT2.out.cells)
        | (with_reducible refine (hm3 _).mono ?_
           rintro e w6 ⟨rfl, hb6⟩;have HT3 := hid (HT2.out.far hb6)
           have K3 := HT3.out.cells)))
 clear hm1 hm2 hm3 K0 K1 K2;obtain ⟨y0, y1, y2, y3, y4, y5⟩ := K3
 go_wp2_with fail
 refine (hcm _).mono ?_;rintro e w7 ⟨rfl, hb7⟩;have HT4 := hid (HT3.out.far hb7);clear hb7 hcm y0 y1 y2 y3 y4 y5;have K3 := HT4.out.cells
 go_wp2_with fail
 go_region_held3 (fun w' => w'.cell? ⟨G, 0, none⟩ = some (.bool n1) ∧ w'.cell? ⟨G, 1, none⟩ = some (.string s1) ∧ w'.cell? ⟨G, 2, none⟩ = some (.string d1) ∧ w'.cell? ⟨H, 0, none⟩ = some (.bool n2) ∧ w'.cell? ⟨H, 1, none⟩ = some (.string s2) ∧ w'.cell? ⟨H, 2, none⟩ = some (.string d2))
  (first | exact K3 | exact K5 | exact K6 | exact K7 | go_keep)
  (first
    | (go_at_call 140
       refine (hop _).mono ?_;rintro e w8 ⟨rfl, hb8⟩;have HT5 := hid ((HT4.out.drewN _).far hb8)
       have K5 := HT5.out.cells)
    | (go_at_call 58
       refine (hrd _).mono ?_;rintro e w9 ⟨rfl, hb9⟩;have HT6 := hid (HT5.out.far hb9)
       have K6 := HT6.out.cells)
    | (go_at_call 60
       refine (htx _).mono ?_;rintro e w10 ⟨rfl, hb10⟩;have HT7 := hid (HT6.out.far hb10)
       have K7 := HT7.out.cells))
 go_wp2
 go_ret
 exact ⟨au (by rw [HI.out]), HT7.out.bel⟩
theorem refAdd_less (s t : ByteArray) (w : World) (hs : s.size ≤ 20000) (ht : t.size ≤ 20000) {p q : Rat} (hp0 : ap s.data.toList = some p) (hq0 : ap t.data.toList = some q) (hne : decide (p.num < 0) ≠ decide (q.num < 0)) (hle : p.num.natAbs * q.den < q.num.natAbs * p.den) : Calls Tryz.prog 85 #[.string s, .string t] w fun e w' => e = .returned (.string ⟨(on2 addO s.data.toList t.data.toList).toArray⟩) ∧ Below w.heap.size w w' := by
 have HI : Hid (on2 addO s.data.toList t.data.toList = aK (p + q)) := hid (by rw [bI hp0 hq0]; rfl);obtain ⟨n1, s1, d1, hP, hs1, hd1, hp⟩ := aH s (by omega) hp0;obtain ⟨n2, s2, d2, hQ, hs2, hd2, hr⟩ := aH t (by omega) hq0;have hp := hp w;have hm1 := fun W => aV s1 d2 _ _ W hP.2.1 hQ.2.2 (by omega) (by omega)
 have hm2 := fun W => aV s2 d1 _ _ W hQ.2.1 hP.2.2 (by omega) (by omega)
 have hm3 := fun W => aV d1 d2 _ _ W hP.2.2 hQ.2.2 (by omega) (by omega)
 have l1 : (af (p.num.natAbs * q.den)).length ≤ 40000 := Nat.le_trans (bp _ _) (by rw [← hP.2.1, ← hQ.2.2, size_data, size_data]; omega);have l2 : (af (q.num.natAbs * p.den)).length ≤ 40000 := Nat.le_trans (bp _ _) (by rw [← hQ.2.1, ← hP.2.2, size_data, size_data]; omega);have l3 : (af (p.den * q.den)).length ≤ 40000 := Nat.le_trans (bp _ _) (by rw [← hP.2.2, ← hQ.2.2, size_data, size_data]; omega);have hden : 0 < p.den * q.den := Nat.mul_pos p.den_pos q.den_pos
 have hbe : (n1 == n2) = false := by
  rw [hP.1, hQ.1]; simpa using hne
 have HRQ : Hid (redQ n2 (q.num.natAbs * p.den - p.num.natAbs * q.den) (p.den * q.den) = p + q) := hid (by rw [hQ.1]; exact redQ_less p q hne (by omega));clear hne;generalize p.num.natAbs * q.den = X at *;generalize q.num.natAbs * p.den = Y at *;generalize p.den * q.den = D at *;have hop := fun W => refSubMag_any ⟨(af Y).toArray⟩ ⟨(af X).toArray⟩ Y X W rfl rfl (by rw [sz_txt]; omega) (by omega)
 have l4 : (af (Y - X)).length ≤ 40001 := aL (d := Y) (by omega) (by omega);generalize Y - X = Z at *;have hrd := fun W => refReduce_any n2 ⟨(af Z).toArray⟩ ⟨(af D).toArray⟩ Z D W rfl rfl (by rw [sz_txt]; omega) (by rw [sz_txt]; omega) hden
 obtain ⟨m1, m2⟩ := redQ_le n2 Z D hden;rw [HRQ.out] at hrd m1 m2;have htx := fun W => refText_any (p + q) W (aL (n := 1000000) (by omega) m1) (aL (n := 1000000) (by omega) m2)
 have hcm := fun W => refCmpMag_any ⟨(af X).toArray⟩ ⟨(af Y).toArray⟩ X Y W rfl rfl
 have hcn : ¬ 0 ≤ cmpN X Y := by unfold cmpN; rw [if_pos hle]; omega
 generalize cmpN X Y = cc at *;clear hle;clear m1 m2 l1 l2 l3 l4 hden hP hQ hp0 hq0 HRQ;unfold ratV at hrd htx;generalize p + q = qq at *;generalize (⟨(af X).toArray⟩ : ByteArray) = px at *;generalize (⟨(af Y).toArray⟩ : ByteArray) = py at *;generalize (⟨(af D).toArray⟩ : ByteArray) = pd at *;generalize (⟨(af Z).toArray⟩ : ByteArray) = pz at *
 go_enter Tryz.func85, Tryz.ntmps85
 go_wp2_with fail
 refine hp.mono ?_;rintro e w1 ⟨rfl, hb1⟩;have HB1 := hid hb1;clear hb1 hp
 go_wp2_with fail
 refine (hr _).mono ?_;rintro e w2 ⟨rfl, hb2⟩;have HT := hid (TwoP.new (n2 := n2) (s2 := s2) (d2 := d2) HB1.out hb2);clear hb2 hr
 go_wp2_with fail
 generalize (w2.alloc (.cells #[.bool n2, .string s2, .string d2] 90)) = w3 at *;generalize w1.heap.size = G at *;generalize w2.heap.size = H at *;have K0 := HT.out.cells
 go_region_held3 (fun w' => w'.cell? ⟨G, 0, none⟩ = some (.bool n1) ∧ w'.cell? ⟨G, 1, none⟩ = some (.string s1) ∧ w'.cell? ⟨G, 2, none⟩ = some (.string d1) ∧ w'.cell? ⟨H, 0, none⟩ = some (.bool n2) ∧ w'.cell? ⟨H, 1, none⟩ = some (.string s2) ∧ w'.cell? ⟨H, 2, none⟩ = some (.string d2))
  (first | exact K0 | exact K1 | exact K2 | exact K3 | go_keep)
  (first
    | (go_at_call 59
       first
        | (with_reducible refine (hm1 _).mono ?_
           rintro e w4 ⟨rfl, hb4⟩;have HT1 := hid ((HT.out.drewN _).far hb4)
           have K1 := HT1.out.cells)
        | (with_reducible refine (hm2 _).mono ?_
           rintro e w5 ⟨rfl, hb5⟩;have HT2 := hid (HT1.out.far hb5)
           have K2 := HT2.out.cells)
        | (with_reducible refine (hm3 _).mono ?_
           rintro e w6 ⟨rfl, hb6⟩;have HT3 := hid (HT2.out.far hb6)
           have K3 := HT3.out.cells)))
 clear hm1 hm2 hm3 K0 K1 K2;obtain ⟨y0, y1, y2, y3, y4, y5⟩ := K3
 go_wp2_with fail
 refine (hcm _).mono ?_;rintro e w7 ⟨rfl, hb7⟩;have HT4 := hid (HT3.out.far hb7);clear hb7 hcm y0 y1 y2 y3 y4 y5;have K3 := HT4.out.cells
 go_wp2_with fail
 go_region_held3 (fun w' => w'.cell? ⟨G, 0, none⟩ = some (.bool n1) ∧ w'.cell? ⟨G, 1, none⟩ = some (.string s1) ∧ w'.cell? ⟨G, 2, none⟩ = some (.string d1) ∧ w'.cell? ⟨H, 0, none⟩ = some (.bool n2) ∧ w'.cell? ⟨H, 1, none⟩ = some (.string s2) ∧ w'.cell? ⟨H, 2, none⟩ = some (.string d2))
  (first | exact K3 | exact K5 | exact K6 | exact K7 | go_keep)
  (first
    | (go_at_call 140
       refine (hop _).mono ?_;rintro e w8 ⟨rfl, hb8⟩;have HT5 := hid ((HT4.out.drewN _).far hb8)
       have K5 := HT5.out.cells)
    | (go_at_call 58
       refine (hrd _).mono ?_;rintro e w9 ⟨rfl, hb9⟩;have HT6 := hid (HT5.out.far hb9)
       have K6 := HT6.out.cells)
    | (go_at_call 60
       refine (htx _).mono ?_;rintro e w10 ⟨rfl, hb10⟩;have HT7 := hid (HT6.out.far hb10)
       have K7 := HT7.out.cells))
 go_wp2
 go_ret
 exact ⟨au (by rw [HI.out]), HT7.out.bel⟩
theorem refAdd_any (s t : ByteArray) (w : World) (hs : s.size ≤ 20000) (ht : t.size ≤ 20000) : Calls Tryz.prog 85 #[.string s, .string t] w fun e w' => e = .returned (.string ⟨(on2 addO s.data.toList t.data.toList).toArray⟩) ∧ Below w.heap.size w w' := by
 cases hp : ap s.data.toList with
 | none => exact refAdd_left s t w hs ht hp
 | some p =>
   cases hq : ap t.data.toList with
   | none => exact refAdd_right s t w hs ht hp hq
   | some q =>
     by_cases he : decide (p.num < 0) = decide (q.num < 0)
     · exact refAdd_same s t w hs ht hp hq (fun a b ha hb => by rw [ha, hb, he])
     · rcases Nat.lt_or_ge (p.num.natAbs * q.den) (q.num.natAbs * p.den) with h | h
       · exact refAdd_less s t w hs ht hp hq he h
       · exact refAdd_more s t w hs ht hp hq he h
end
end Go.Proofs.YteoklapcifonaaaGreatDoor

/- Constraints that differ by a positive factor: the walk of the statement. -/
import Derived.Test.YtgfoljpjdmeooaaGreatDoorKMI
import Derived.Test.YtgfoljpjdmeooaaGreatDoorKLY
import Derived.Test.YtgfoljpjdmeooaaGreatDoorKLU
namespace Go.Proofs.YtgfoljpjdmeooaaGreatDoor
open Go.RowKit Nmx

/-- the modulus as a text: none at a comparison -/
def TXo : Option Int → ByteArray
  | none => ⟨#[]⟩
  | some m => TX (m : Rat)
/-- relation, sort and modulus fit; the modulus has few digits -/
def ConM (r s : Int) (d : Nat) : Option Int → Prop
  | none => (s = 2 ∨ s = 3) ∧ (r = 1 ∨ r = 2 ∨ r = 3)
  | some m => s = 2 ∧ (r = 4 ∨ r = 5) ∧ 1 ≤ m ∧ DS d (m : Rat)
/-- what the normal form is -/
def NN (r s : Int) (p : Rat) (cs : List (List UInt8 × Rat)) (M : Option Int) (r' : Int) (c' : Rat) (f' : List UInt8 → Rat) (tm' : ByteArray) : Prop := match M with
  | none => NF r s p cs r' c' f' ∧ tm' = ⟨#[]⟩
  | some m => DF r m p cs r' c' f' tm'
/-- it comes back, and no error -/
def GetsNN (r s : Int) (tm : ByteArray) (d : Nat) (c : Rat) (f : List UInt8 → Rat) (w : World) (e : Ending) (w' : World) : Prop := ∃ rs ao n cp tx, e = .returned (.tuple #[.agg #[.int .i64 r, .int .i64 s, .slice ao n cp, .string tx, .string tm], .int .i64 0]) ∧ LV w' (.agg #[.int .i64 s, .slice ao n cp, .string tx]) s d c rs ∧ (∀ n, cof rs n = f n) ∧ Below w.heap.size w w'
theorem normal_any {d : Nat} {w : World} {r s : Int} {a1 : Option Addr} {n1 c1 : Nat} {t1 : ByteArray} {p : Rat} {cs : List (List UInt8 × Rat)} {M : Option Int} (h : LV w (.agg #[.int .i64 s, .slice a1 n1 c1, .string t1]) s d p cs) (hk : ConM r s d M) (hd : d ≤ 60) (hE : Env w) :
    Calls Tryz.prog 22 #[.agg #[.int .i64 r, .int .i64 s, .slice a1 n1 c1, .string t1, .string (TXo M)]] w fun e w' => ∃ r' c' f' tm', NN r s p cs M r' c' f' tm' ∧ GetsNN r' s tm' (27 * d + 8) c' f' w e w' := by
  cases M with
  | none =>
    refine (normalN h hk.2 hk.1 (by omega) hE).mono ?_
    rintro e w' ⟨r', c', f', hn, rs, ao, n, cp, tx, rfl, hl, hf, hb⟩
    exact ⟨r', c', f', _, ⟨hn, rfl⟩, rs, ao, n, cp, tx, rfl, hl, hf, hb⟩
  | some m =>
    obtain ⟨rfl, hr, hm, hmd⟩ := hk
    refine (normalD h hr hm hmd hd hE).mono ?_
    rintro e w' ⟨r', c', f', tm', hn, rs, ao, n, cp, tx, rfl, hl, hf, hb⟩
    exact ⟨r', c', f', _, hn, rs, ao, n, cp, tx, rfl, hl.mono (by omega), hf, hb⟩
/-- the modulus of the scaled constraint -/
def MulM (f : Rat) : Option Int → Option Int → Prop
  | none, none => True
  | some m, some m' => ((m' : Int) : Rat) = f * m
  | _, _ => False
theorem NN_scl {f : Rat} (hf : 0 < f) {r s r1 r2 : Int} {p c1 c2 : Rat} {l l' : List (List UInt8 × Rat)} {f1 f2 : List UInt8 → Rat} {t1 t2 : ByteArray} {M M' : Option Int} (hM : MulM f M M') (h : Can ltB l) (h' : Can ltB l') (hl : ∀ n, cof l' n = f * cof l n) (n1 : NN r s p l M r1 c1 f1 t1) (n2 : NN r s (f * p) l' M' r2 c2 f2 t2) : r1 = r2 ∧ c1 = c2 ∧ f1 = f2 ∧ t1 = t2 := by
  cases M with
  | none =>
    cases M' with
    | none =>
      obtain ⟨e1, e2, e3⟩ := NF_scl hf h h' hl n1.1 n2.1
      exact ⟨e1, e2, e3, n1.2.trans n2.2.symm⟩
    | some m' => exact hM.elim
  | some m =>
    cases M' with
    | none => exact hM.elim
    | some m' => exact DF_scl hf hM h h' hl n1 n2
/-- fewer digits than the contract of Scale says: the factor is small -/
theorem LV.tight {w : World} {v : Value} {s : Int} {D d e : Nat} {c k : Rat} {rs cs : List (List UInt8 × Rat)} (h : LV w v s D c rs) (hc : DS (e + d) c) (hf : ∀ n, cof rs n = k * cof cs n) (hk : DS e k) (hg : Good d cs) : LV w v s (e + d) c rs := by
  obtain ⟨ao, g, off, cap, h1, h2, h3, h4, -⟩ := h
  refine ⟨ao, g, off, cap, h1, h2, h3, ⟨h4.can, h4.nm, fun x hx => ?_⟩, hc⟩
  have e1 : ∀ l : List (List UInt8 × Rat), Can ltB l → ∀ x ∈ l, cof l x.1 = x.2 := by
    intro l
    induction l with
    | nil => exact fun _ x hx => (List.not_mem_nil hx).elim
    | cons y l ih =>
      intro hc x hx
      obtain ⟨n, p⟩ := y
      rw [cof_cons]
      rcases List.mem_cons.1 hx with h | h
      · rw [h, if_pos rfl]
      · rw [if_neg (fun e => ord_ltB.irr n (by have := hc.2.1 x h; rw [← e] at this; exact this))]
        exact ih hc.2.2 x h
  have e2 : ∀ l : List (List UInt8 × Rat), (∀ x ∈ l, DS d x.2) → ∀ n, DS d (cof l n) := by
    intro l
    induction l with
    | nil => exact fun _ _ => DS.zero d
    | cons y l ih =>
      intro h n
      obtain ⟨m, p⟩ := y
      rw [cof_cons]
      split
      · exact h (m, p) (by simp)
      · exact ih (fun x hx => h x (by simp [hx])) n
  rw [← e1 rs h4.can x hx, hf]
  exact hk.mul (e2 cs hg.ds _)
theorem LV.good {w : World} {v : Value} {s : Int} {d : Nat} {c : Rat} {cs : List (List UInt8 × Rat)} (h : LV w v s d c cs) : Good d cs ∧ DS d c :=
  let ⟨_, _, _, _, _, _, _, h4, h5⟩ := h; ⟨h4, h5⟩
theorem modS (a b : Int) (w : World) (hb : 1 ≤ b) (hb2 : b ≤ 1000000000000000000) : Calls Tryz.prog 9 #[.int .i64 a, .int .i64 b] w fun e w1 => ∃ m, 0 ≤ m ∧ m < b ∧ e = .returned (.int .i64 m) ∧ w1 = w :=
  (mod_q a b w hb hb2).mono fun _ _ h => ⟨modF a b, by unfold modF; exact Int.emod_nonneg _ (by omega), by unfold modF; exact Int.emod_lt_of_pos _ (by omega), h.1, h.2⟩
theorem con_mod {r s : Int} {tm : ByteArray} (h : ConOk r s tm) : ∃ M, tm = TXo M ∧ ConM r s 26 M := by
  obtain ⟨hs, ⟨h1, h2, rfl⟩ | ⟨h1, h2, rfl, m, hm1, hm2, rfl⟩⟩ := h
  · exact ⟨none, rfl, hs, by omega⟩
  · exact ⟨some m, rfl, rfl, by omega, hm1, (ds_small hm1 hm2).mono (by decide)⟩
theorem ConM.sort {r s : Int} {d : Nat} {M : Option Int} (h : ConM r s d M) : s = 2 ∨ s = 3 := by
  cases M with
  | none => exact h.1
  | some m => exact .inl h.1
theorem tx_some (q : Rat) : (TX q).toList.isEmpty = false ∧ ((TX q).toList == []) = false := by
  have h1 := tx_ratF q
  have h : (TX q).data.toList ≠ [] := fun h => by
    rw [h, show ratF [] = none from rfl] at h1
    cases h1
  rw [ByteArray.toList_eq]
  constructor
  · cases ht : (TX q).data.toList with
    | nil => exact absurd ht h
    | cons _ _ => rfl
  · simpa using h
theorem set3m {w : World} {T : Nat} {x0 x1 x2 x3 x4 y1 y2 y3 : Value} {t : TypeId} (h : w.heap[T]? = some (.cells #[x0, x1, x2, x3, x4] t (0, 0))) : (((w.setCell ⟨T, 1, none⟩ y1).setCell ⟨T, 2, none⟩ y2).setCell ⟨T, 3, none⟩ y3).heap[T]? = some (.cells #[x0, y1, y2, y3, x4] t (0, 0)) := by
    have h1 := heap_setCell_same w T 1 _ _ y1 h
    have h2 := heap_setCell_same _ T 2 _ _ y2 h1
    have h3 := heap_setCell_same _ T 3 _ _ y3 h2
    exact h3
theorem set3m_other {w : World} {T : Nat} (y1 y2 y3 : Value) {g : Nat} (hg : g ≠ T) : (((w.setCell ⟨T, 1, none⟩ y1).setCell ⟨T, 2, none⟩ y2).setCell ⟨T, 3, none⟩ y3).heap[g]? = w.heap[g]? :=
  (Below.heap_setCell _ _ _ _ hg).trans ((Below.heap_setCell _ _ _ _ hg).trans (Below.heap_setCell _ _ _ _ hg))
/-- a box with a constraint -/
structure CX (w : World) (S : Nat) (r s : Int) (ao : Option Addr) (n cap : Nat) (tx tm : ByteArray) (d : Nat) (c : Rat) (cs : List (List UInt8 × Rat)) : Prop where
  h : w.heap[S]? = some (.cells #[.int .i64 r, .int .i64 s, .slice ao n cap, .string tx, .string tm] 39 (0, 0))
  l : LV w (.agg #[.int .i64 s, .slice ao n cap, .string tx]) s d c cs
section
variable {w w' : World} {S : Nat} {r s : Int} {ao : Option Addr} {n cap : Nat} {tx tm : ByteArray} {d : Nat} {c : Rat} {cs : List (List UInt8 × Rat)}
theorem CX.far (h : CX w S r s ao n cap tx tm d c cs) (hb : Below w.heap.size w w') : CX w' S r s ao n cap tx tm d c cs := ⟨(hb.block _ (lt_of_heap h.h)).trans h.h, h.l.far hb⟩
theorem CX.new (h : LV w (.agg #[.int .i64 s, .slice ao n cap, .string tx]) s d c cs) : CX (w.alloc (.cells #[.int .i64 r, .int .i64 s, .slice ao n cap, .string tx, .string tm] 39)) w.heap.size r s ao n cap tx tm d c cs :=
  ⟨heap_alloc_new w _, h.far (alloc_far w _)⟩
theorem CX.but (h : CX w S r s ao n cap tx tm d c cs) {T : Nat} {xs : Array Value} (hT : w.heap[T]? = some (.cells xs 39 (0, 0))) (hne : S ≠ T) (ho : ∀ g, g ≠ T → w'.heap[g]? = w.heap[g]?) : CX w' S r s ao n cap tx tm d c cs :=
  ⟨(ho _ hne).trans h.h, h.l.but hT (by decide) ho⟩
end
section
set_option maxRecDepth 100000
set_option maxHeartbeats 8000000
theorem scaled_any (al : Option Addr) (ll cl : Nat) (k : Int) (w : World) (hE : Env w) (hl : ArgI w al ll cl) :
    Calls Tryz.prog 4 #[.slice al ll cl, .int .i64 k] w fun e w' => e = .returned (.bool true) ∧ Below w.heap.size w w' := by
  have HE := Lib.hid hE
  have HAl := Lib.hid hl
  clear hE hl
  go_enter Tryz.func4, Tryz.ntmps4
  go_wp2_with fail
  refine (new_any al ll cl _ HAl.out).mono ?_
  rintro e w1 ⟨rfl, rfl⟩
  go_wp2_with fail
  refine (constraint_any _ _ _ _ _ (ch_newL HAl.out)).mono ?_
  rintro e w1 ⟨r, s, cs, q, bo, m, cp, tx, tm, rfl, lc, hok, -, hg⟩
  have HB := Lib.hid (new_far hg)
  have LC := Lib.hid lc
  have HOK := Lib.hid hok
  clear hg lc hok HAl
  go_wp2_with fail
  have HXc := Lib.hid (CX.new (r := r) (tm := tm) LC.out)
  replace HB := Lib.hid (HB.out.trans ((alloc_far w1 (.cells #[.int .i64 r, .int .i64 s, .slice bo m cp, .string tx, .string tm] 39)).mono HB.out.size))
  clear LC
  generalize w1.alloc (.cells #[.int .i64 r, .int .i64 s, .slice bo m cp, .string tx, .string tm] 39) = w2 at *
  generalize w1.heap.size = S at *
  refine (modS k 9 _ (by decide) (by decide)).mono ?_
  rintro e w3 ⟨a, ha0, ha1, rfl, rfl⟩
  obtain ⟨za, hza⟩ : ∃ z : Int, 1 + a = z := ⟨_, rfl⟩
  go_wp2_with fail
  refine (refFromIntT za (by omega) (by omega) _).mono ?_
  rintro e w4 ⟨rfl, hb⟩
  have hza0 : 1 ≤ za := by omega
  have hza1 : za ≤ 9 := by omega
  clear hza ha0 ha1
  replace HXc := Lib.hid (HXc.out.far hb)
  replace HB := Lib.hid (HB.out.trans (hb.mono HB.out.size))
  clear hb
  go_wp2_with fail
  refine (modS _ 7 _ (by decide) (by decide)).mono ?_
  rintro e w5 ⟨b, hb0, hb1, rfl, rfl⟩
  obtain ⟨zb, hzb⟩ : ∃ z : Int, 1 + b = z := ⟨_, rfl⟩
  go_wp2_with fail
  refine (refFromIntT zb (by omega) (by omega) _).mono ?_
  rintro e w6 ⟨rfl, hb⟩
  have hzb0 : 1 ≤ zb := by omega
  have hzb1 : zb ≤ 9 := by omega
  clear hzb hb0 hb1
  replace HXc := Lib.hid (HXc.out.far hb)
  replace HB := Lib.hid (HB.out.trans (hb.mono HB.out.size))
  clear hb
  go_wp2_with fail
  have da : DS 1 ((za : Int) : Rat) := DS.int (by omega)
  have db : DS 1 ((zb : Int) : Rat) := DS.int (by omega)
  have hbn : ((zb : Int) : Rat).num ≠ 0 := by rw [Rat.num_intCast]; omega
  have hdf := da.div db hbn
  have hdv := fun W => refDivT da db (by decide) (by decide) hbn W
  have hfp : (0 : Rat) < ((za : Int) : Rat) / ((zb : Int) : Rat) := by
    have h1 : (0 : Rat) < ((za : Int) : Rat) := Rat.intCast_pos.2 (by omega)
    have h2 : (0 : Rat) < ((zb : Int) : Rat) := Rat.intCast_pos.2 (by omega)
    rw [Rat.div_def]
    exact Rat.mul_pos h1 (Rat.inv_pos.2 h2)
  generalize ((za : Int) : Rat) / ((zb : Int) : Rat) = f at *
  have HFP := Lib.hid hfp
  have HDF := Lib.hid hdf
  refine (hdv _).mono ?_
  rintro e w7 ⟨rfl, hb⟩
  replace HXc := Lib.hid (HXc.out.far hb)
  replace HB := Lib.hid (HB.out.trans (hb.mono HB.out.size))
  clear hb hdv hfp hdf da db hbn hza0 hza1 hzb0 hzb1
  have HB7 := Lib.hid HB.out.size
  have c0 := heap_cell HXc.out.h 0
  have c1 := heap_cell HXc.out.h 1
  have c2 := heap_cell HXc.out.h 2
  have c3 := heap_cell HXc.out.h 3
  have c4 := heap_cell HXc.out.h 4
  have hlS := lt_of_heap HXc.out.h
  go_wp2_with fail
  obtain ⟨M, hM, hk⟩ := con_mod HOK.out
  have HK := Lib.hid hk
  have hsc : ∀ W, Below w.heap.size w W → LV W (.agg #[.int .i64 s, .slice bo m cp, .string tx]) s 26 q cs → Calls Tryz.prog 14 #[.agg #[.int .i64 s, .slice bo m cp, .string tx], .string (TX f)] W (GetsLE s (3 * 26 + 1) (f * q) (fun n => f * cof cs n) W) := fun W hW hl => scaleTL hl hk.sort (HDF.out.mono (by decide)) (by decide) (HE.out.far hW)
  have hmu : ∀ (z : Int) W, Below w.heap.size w W → DS 26 (z : Rat) → Calls Tryz.prog 20 #[.string (TX (z : Rat)), .string (TX f)] W (GetsT ((z : Rat) * f) W) := fun z W hW hz => numMulT hz HDF.out (by decide) (by decide) W (HE.out.far hW)
  obtain ⟨tf, htf⟩ : ∃ t, TX f = t := ⟨_, rfl⟩
  rw [htf] at hsc hmu ⊢
  have HSC := Lib.hid hsc
  have HMU := Lib.hid hmu
  have hST : S ≠ w7.heap.size := by omega
  have HT := Lib.hid (heap_alloc_new w7 (.cells #[.int .i64 r, .int .i64 s, .slice bo m cp, .string tx, .string tm] 39))
  have hal := alloc_far w7 (.cells #[.int .i64 r, .int .i64 s, .slice bo m cp, .string tx, .string tm] 39)
  replace HXc := Lib.hid (HXc.out.far hal)
  replace HB := Lib.hid (HB.out.trans (hal.mono HB.out.size))
  clear hal hk hsc hmu htf c0 c1 c2 c3 c4 hlS HOK
  have HWT := Lib.hid HB.out.size
  have HwT : Hid (w.heap.size ≤ w7.heap.size) := Lib.hid HB7.out
  generalize w7.alloc (.cells #[.int .i64 r, .int .i64 s, .slice bo m cp, .string tx, .string tm] 39) = w8 at *
  generalize w7.heap.size = T at *
  refine (HSC.out _ HB.out HXc.out.l).mono ?_
  rintro e w9 ⟨ds, v, rfl, hl, hf, hb⟩
  obtain ⟨ax, nx, px, ty, rfl, hl⟩ := hl.open
  have LD := Lib.hid (hl.tight (HDF.out.mul HXc.out.l.good.2) hf HDF.out HXc.out.l.good.1)
  have HF := Lib.hid hf
  replace HXc := Lib.hid (HXc.out.far hb)
  replace HT := Lib.hid ((hb.block _ (lt_of_heap HT.out)).trans HT.out)
  replace HB := Lib.hid (HB.out.trans (hb.mono HB.out.size))
  clear hb hf hl HSC
  have t0 := heap_cell HT.out 0
  have t1 := heap_cell HT.out 1
  have t2 := heap_cell HT.out 2
  have t3 := heap_cell HT.out 3
  have t4 := heap_cell HT.out 4
  have fr := fun i => heap_fz HT.out i
  have c0 := heap_cell HXc.out.h 0
  have c1 := heap_cell HXc.out.h 1
  have c2 := heap_cell HXc.out.h 2
  have c3 := heap_cell HXc.out.h 3
  have c4 := heap_cell HXc.out.h 4
  have hlS := lt_of_heap HXc.out.h
  cases M with
  | none =>
    obtain rfl : tm = ⟨#[]⟩ := hM
    go_wp2_with fail
    have HXd : Hid (CX (((w9.setCell ⟨T, 1, none⟩ (.int .i64 s)).setCell ⟨T, 2, none⟩ (.slice ax nx px)).setCell ⟨T, 3, none⟩ (.string ty)) T r s ax nx px ty ⟨#[]⟩ (1 + 1 + 26) (f * q) ds) := Lib.hid ⟨set3m HT.out, LD.out.but HT.out (by decide) (fun g hg => set3m_other _ _ _ hg)⟩
    replace HXc := Lib.hid (HXc.out.but (w' := ((w9.setCell ⟨T, 1, none⟩ (.int .i64 s)).setCell ⟨T, 2, none⟩ (.slice ax nx px)).setCell ⟨T, 3, none⟩ (.string ty)) HT.out hST (fun g hg => set3m_other _ _ _ hg))
    have hst := HwT.out
    replace HB := Lib.hid (((HB.out.setCell (show w.heap.size ≤ T by omega) (p := ⟨T, 1, none⟩) (.int .i64 s)).setCell (p := ⟨T, 2, none⟩) (show w.heap.size ≤ T by omega) (.slice ax nx px)).setCell (p := ⟨T, 3, none⟩) (show w.heap.size ≤ T by omega) (.string ty))
    clear HT LD t0 t1 t2 t3 t4 fr c0 c1 c2 c3 c4 hlS hst
    generalize ((w9.setCell ⟨T, 1, none⟩ (.int .i64 s)).setCell ⟨T, 2, none⟩ (.slice ax nx px)).setCell ⟨T, 3, none⟩ (.string ty) = w10 at *
    refine (normal_any (M := none) HXc.out.l HK.out (by decide) (HE.out.far HB.out)).mono ?_
    rintro e w11 ⟨r1, k1, f1, m1, hn1, rs1, a1, n1, p1, x1, rfl, hl1, hf1, hb⟩
    replace HXd := Lib.hid (HXd.out.far hb)
    replace HB := Lib.hid (HB.out.trans (hb.mono HB.out.size))
    have HN1 := Lib.hid hn1
    have HF1 := Lib.hid hf1
    have L1 := Lib.hid hl1
    clear hb hn1 hf1 hl1
    have d0 := heap_cell HXd.out.h 0
    have d1 := heap_cell HXd.out.h 1
    have d2 := heap_cell HXd.out.h 2
    have d3 := heap_cell HXd.out.h 3
    have d4 := heap_cell HXd.out.h 4
    have hlT := lt_of_heap HXd.out.h
    go_wp2_with fail
    have hal := alloc_far w11 (.cells #[.int .i64 r1, .int .i64 s, .slice a1 n1 p1, .string x1, .string m1] 39)
    replace HXd := Lib.hid (HXd.out.far hal)
    replace HB := Lib.hid (HB.out.trans (hal.mono HB.out.size))
    have HX1 := Lib.hid (CX.new (r := r1) (tm := m1) L1.out)
    clear hal L1 d0 d1 d2 d3 d4 hlT
    generalize w11.alloc (.cells #[.int .i64 r1, .int .i64 s, .slice a1 n1 p1, .string x1, .string m1] 39) = w12 at *
    generalize w11.heap.size = S1 at *
    refine (normal_any (M := none) HXd.out.l HK.out (by decide) (HE.out.far HB.out)).mono ?_
    rintro e w13 ⟨r2, k2, f2, m2, hn2, rs2, a2, n2, p2, x2, rfl, hl2, hf2, hb⟩
    obtain ⟨rfl, rfl, rfl, rfl⟩ := NN_scl HFP.out (M := none) (M' := none) trivial HXc.out.l.good.1.can HXd.out.l.good.1.can HF.out HN1.out hn2
    replace HX1 := Lib.hid (HX1.out.far hb)
    replace HB := Lib.hid (HB.out.trans (hb.mono HB.out.size))
    have HF2 := Lib.hid hf2
    have L2 := Lib.hid hl2
    clear hb hn2 hf2 hl2 HXd HXc HN1
    have d0 := heap_cell HX1.out.h 0
    have d1 := heap_cell HX1.out.h 1
    have d2 := heap_cell HX1.out.h 2
    have d3 := heap_cell HX1.out.h 3
    have d4 := heap_cell HX1.out.h 4
    have hlS := lt_of_heap HX1.out.h
    go_wp2_with fail
    have hal := alloc_far w13 (.cells #[.int .i64 r1, .int .i64 s, .slice a2 n2 p2, .string x2, .string m1] 39)
    replace HB := Lib.hid (HB.out.trans (hal.mono HB.out.size))
    have hsm := sameC (r := r1) (tm := m1) (HX1.out.l.far hal) (L2.out.far hal) (fun n => (HF1.out n).trans (HF2.out n).symm)
    clear hal d0 d1 d2 d3 d4 hlS
    generalize w13.alloc (.cells #[.int .i64 r1, .int .i64 s, .slice a2 n2 p2, .string x2, .string m1] 39) = w14 at *
    refine hsm.mono ?_
    rintro e w15 ⟨rfl, hb⟩
    replace HB := Lib.hid (HB.out.trans (hb.mono HB.out.size))
    clear hb hsm
    go_wp2_with fail
    refine (awakeL _ (HE.out.far HB.out)).mono ?_
    rintro e w16 ⟨rfl, hb⟩
    replace HB := Lib.hid (HB.out.trans (hb.mono HB.out.size))
    clear hb
    go_wp2
    go_ret
    exact ⟨rfl, HB.out⟩
  | some z =>
    obtain rfl : tm = TX (z : Rat) := hM
    have hmz := HMU.out z
    have hkz := HK.out
    have hn1 := tx_some (z : Rat)
    obtain ⟨tz, htz⟩ : ∃ t, TX (z : Rat) = t := ⟨_, rfl⟩
    rw [htz] at hmz hn1 HXc HT t4 c4
    have hn2 := hn1.1
    have hn3 := hn1.2
    have HTZ := Lib.hid htz
    have HMZ := Lib.hid hmz
    have HKZ := Lib.hid hkz
    clear htz hmz hn1 hkz
    go_wp2_with fail
    have HXd : Hid (CX (((w9.setCell ⟨T, 1, none⟩ (.int .i64 s)).setCell ⟨T, 2, none⟩ (.slice ax nx px)).setCell ⟨T, 3, none⟩ (.string ty)) T r s ax nx px ty tz (1 + 1 + 26) (f * q) ds) := Lib.hid ⟨set3m HT.out, LD.out.but HT.out (by decide) (fun g hg => set3m_other _ _ _ hg)⟩
    replace HXc := Lib.hid (HXc.out.but (w' := ((w9.setCell ⟨T, 1, none⟩ (.int .i64 s)).setCell ⟨T, 2, none⟩ (.slice ax nx px)).setCell ⟨T, 3, none⟩ (.string ty)) HT.out hST (fun g hg => set3m_other _ _ _ hg))
    have hst := HwT.out
    replace HB := Lib.hid (((HB.out.setCell (show w.heap.size ≤ T by omega) (p := ⟨T, 1, none⟩) (.int .i64 s)).setCell (p := ⟨T, 2, none⟩) (show w.heap.size ≤ T by omega) (.slice ax nx px)).setCell (p := ⟨T, 3, none⟩) (show w.heap.size ≤ T by omega) (.string ty))
    clear HT LD t0 t1 t2 t3 t4 fr c0 c1 c2 c3 c4 hlS hst
    generalize ((w9.setCell ⟨T, 1, none⟩ (.int .i64 s)).setCell ⟨T, 2, none⟩ (.slice ax nx px)).setCell ⟨T, 3, none⟩ (.string ty) = w10 at *

    refine (HMZ.out _ HB.out HKZ.out.2.2.2).mono ?_
    rintro e w17 ⟨rfl, hb⟩
    replace HXc := Lib.hid (HXc.out.far hb)
    replace HXd := Lib.hid (HXd.out.far hb)
    replace HB := Lib.hid (HB.out.trans (hb.mono HB.out.size))
    clear hb hn2 hn3 HMZ
    have hdz : DS 28 ((z : Rat) * f) := HKZ.out.2.2.2.mul HDF.out
    have hii := fun W hW => numIsIntT hdz (by decide) W hW
    have hzpos : (0 : Rat) < (z : Rat) * f := Rat.mul_pos (Rat.intCast_pos.2 (by have := HKZ.out.2.2.1; omega)) HFP.out
    obtain ⟨y, hy⟩ : ∃ y, (z : Rat) * f = y := ⟨_, rfl⟩
    rw [hy] at hii hdz hzpos
    rw [hy]
    have HY := Lib.hid hy
    have HDZ := Lib.hid hdz
    have HZP := Lib.hid hzpos
    clear hdz hzpos hy
    obtain ⟨tp, htp⟩ : ∃ t, TX y = t := ⟨_, rfl⟩
    rw [htp] at hii ⊢
    have HTP := Lib.hid htp
    have HII := Lib.hid hii
    clear htp hii
    have d0 := heap_cell HXd.out.h 0
    have d1 := heap_cell HXd.out.h 1
    have d2 := heap_cell HXd.out.h 2
    have d3 := heap_cell HXd.out.h 3
    have d4 := heap_cell HXd.out.h 4
    have hlT := lt_of_heap HXd.out.h
    have fr := fun i => heap_fz HXd.out.h i
    go_wp2_with fail
    have hst := HwT.out
    have ho : ∀ g, g ≠ T → (w17.setCell ⟨T, 4, none⟩ (.string tp)).heap[g]? = w17.heap[g]? := fun g hg => Below.heap_setCell _ _ _ _ hg
    have HXd2 : Hid (CX (w17.setCell ⟨T, 4, none⟩ (.string tp)) T r s ax nx px ty tp (1 + 1 + 26) (f * q) ds) := Lib.hid ⟨heap_setCell_same w17 T 4 _ _ _ HXd.out.h, HXd.out.l.but HXd.out.h (by decide) ho⟩
    replace HXc := Lib.hid (HXc.out.but HXd.out.h hST ho)
    replace HB := Lib.hid (HB.out.setCell (show w.heap.size ≤ T by omega) (p := ⟨T, 4, none⟩) (.string tp))
    clear HXd d0 d1 d2 d3 d4 hlT fr ho hst
    have HXd := HXd2
    clear HXd2
    generalize w17.setCell ⟨T, 4, none⟩ (.string tp) = w18 at *
    refine (HII.out _ (HE.out.far HB.out)).mono ?_
    rintro e w10 ⟨rfl, hb⟩
    replace HXc := Lib.hid (HXc.out.far hb)
    replace HXd := Lib.hid (HXd.out.far hb)
    replace HB := Lib.hid (HB.out.trans (hb.mono HB.out.size))
    clear hb HII
    by_cases hint : y.den = 1
    · rw [decide_eq_true hint]
      have hyi := rat_int hint
      have hyn : 0 < y.num := (num_gt y).2 HZP.out
      have HK2 : Hid (ConM r s 28 (some y.num)) := Lib.hid ⟨HKZ.out.1, HKZ.out.2.1, by omega, by rw [← hyi]; exact HDZ.out⟩
      have HM2 : Hid (MulM f (some z) (some y.num)) := Lib.hid (by
        show ((y.num : Int) : Rat) = f * z
        rw [← hyi, ← HY.out]; exact Rat.mul_comm _ _)
      have htp := HTP.out
      rw [hyi] at htp
      obtain rfl : tp = TXo (some y.num) := htp.symm
      obtain rfl : tz = TXo (some z) := HTZ.out.symm
      generalize y.num = zy at *
      generalize hoz : TXo (some z) = oz at *
      generalize hoy : TXo (some zy) = oy at *
      clear hint hyi hyn htp
      have HOZ := Lib.hid hoz
      have HOY := Lib.hid hoy
      have HNc : Hid (∀ W, Below w.heap.size w W → LV W (.agg #[.int .i64 s, .slice bo m cp, .string tx]) s 26 q cs → Calls Tryz.prog 22 #[.agg #[.int .i64 r, .int .i64 s, .slice bo m cp, .string tx, .string oz]] W fun e w' => ∃ r' c' f' tm', NN r s q cs (some z) r' c' f' tm' ∧ GetsNN r' s tm' (27 * 26 + 8) c' f' W e w') := Lib.hid (fun W hW hl => by rw [← HOZ.out]; exact normal_any hl HK.out (by decide) (HE.out.far hW))
      have HNd : Hid (∀ W, Below w.heap.size w W → LV W (.agg #[.int .i64 s, .slice ax nx px, .string ty]) s (1 + 1 + 26) (f * q) ds → Calls Tryz.prog 22 #[.agg #[.int .i64 r, .int .i64 s, .slice ax nx px, .string ty, .string oy]] W fun e w' => ∃ r' c' f' tm', NN r s (f * q) ds (some zy) r' c' f' tm' ∧ GetsNN r' s tm' (27 * 28 + 8) c' f' W e w') := Lib.hid (fun W hW hl => by rw [← HOY.out]; exact normal_any hl HK2.out (by decide) (HE.out.far hW))
      clear hoz hoy
      have c0 := heap_cell HXc.out.h 0
      have c1 := heap_cell HXc.out.h 1
      have c2 := heap_cell HXc.out.h 2
      have c3 := heap_cell HXc.out.h 3
      have c4 := heap_cell HXc.out.h 4
      have hlS := lt_of_heap HXc.out.h
      go_wp2_with fail
      refine (HNc.out _ HB.out HXc.out.l).mono ?_
      rintro e w11 ⟨r1, k1, f1, m1, hn1, rs1, a1, n1, p1, x1, rfl, hl1, hf1, hb⟩
      replace HXd := Lib.hid (HXd.out.far hb)
      replace HB := Lib.hid (HB.out.trans (hb.mono HB.out.size))
      have HN1 := Lib.hid hn1
      have HF1 := Lib.hid hf1
      have L1 := Lib.hid hl1
      clear hb hn1 hf1 hl1 c0 c1 c2 c3 c4 hlS
      have d0 := heap_cell HXd.out.h 0
      have d1 := heap_cell HXd.out.h 1
      have d2 := heap_cell HXd.out.h 2
      have d3 := heap_cell HXd.out.h 3
      have d4 := heap_cell HXd.out.h 4
      have hlT := lt_of_heap HXd.out.h
      go_wp2_with fail
      have hal := alloc_far w11 (.cells #[.int .i64 r1, .int .i64 s, .slice a1 n1 p1, .string x1, .string m1] 39)
      replace HXd := Lib.hid (HXd.out.far hal)
      replace HB := Lib.hid (HB.out.trans (hal.mono HB.out.size))
      have HX1 := Lib.hid (CX.new (r := r1) (tm := m1) L1.out)
      clear hal L1 d0 d1 d2 d3 d4 hlT
      generalize w11.alloc (.cells #[.int .i64 r1, .int .i64 s, .slice a1 n1 p1, .string x1, .string m1] 39) = w12 at *
      generalize w11.heap.size = S1 at *
      refine (HNd.out _ HB.out HXd.out.l).mono ?_
      rintro e w13 ⟨r2, k2, f2, m2, hn2, rs2, a2, n2, p2, x2, rfl, hl2, hf2, hb⟩
      obtain ⟨rfl, rfl, rfl, rfl⟩ := NN_scl HFP.out HM2.out HXc.out.l.good.1.can HXd.out.l.good.1.can HF.out HN1.out hn2
      replace HX1 := Lib.hid (HX1.out.far hb)
      replace HB := Lib.hid (HB.out.trans (hb.mono HB.out.size))
      have HF2 := Lib.hid hf2
      have L2 := Lib.hid hl2
      clear hb hn2 hf2 hl2 HXd HXc HN1
      have d0 := heap_cell HX1.out.h 0
      have d1 := heap_cell HX1.out.h 1
      have d2 := heap_cell HX1.out.h 2
      have d3 := heap_cell HX1.out.h 3
      have d4 := heap_cell HX1.out.h 4
      have hlS := lt_of_heap HX1.out.h
      go_wp2_with fail
      have hal := alloc_far w13 (.cells #[.int .i64 r1, .int .i64 s, .slice a2 n2 p2, .string x2, .string m1] 39)
      replace HB := Lib.hid (HB.out.trans (hal.mono HB.out.size))
      have hsm := sameC (r := r1) (tm := m1) (HX1.out.l.far hal) (L2.out.far hal) (fun n => (HF1.out n).trans (HF2.out n).symm)
      clear hal d0 d1 d2 d3 d4 hlS
      generalize w13.alloc (.cells #[.int .i64 r1, .int .i64 s, .slice a2 n2 p2, .string x2, .string m1] 39) = w14 at *
      refine hsm.mono ?_
      rintro e w15 ⟨rfl, hb⟩
      replace HB := Lib.hid (HB.out.trans (hb.mono HB.out.size))
      clear hb hsm
      go_wp2_with fail
      refine (awakeL _ (HE.out.far HB.out)).mono ?_
      rintro e w16 ⟨rfl, hb⟩
      replace HB := Lib.hid (HB.out.trans (hb.mono HB.out.size))
      clear hb
      go_wp2
      go_ret
      exact ⟨rfl, HB.out⟩
    · rw [decide_eq_false hint]
      clear hint
      go_wp2_with fail
      refine (awakeL _ (HE.out.far HB.out)).mono ?_
      rintro e w16 ⟨rfl, hb⟩
      replace HB := Lib.hid (HB.out.trans (hb.mono HB.out.size))
      clear hb
      go_wp2
      go_ret
      exact ⟨rfl, HB.out⟩
end
end Go.Proofs.YtgfoljpjdmeooaaGreatDoor

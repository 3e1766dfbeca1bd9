/- The laws of a vector space at linear expressions: the walk of the statement. -/
import Derived.Test.YtgfoljpjdmeooaaGreatDoorLJ
import Derived.Test.YtgfoljpjdmeooaaGreatDoorLT
import Derived.Test.YtgfoljpjdmeooaaGreatDoorLD
import Derived.Laws.AppendOwnNone
import Derived.Laws.OwnMore
namespace Go.Proofs.YtgfoljpjdmeooaaGreatDoor
open Go.RowKit Nmx

theorem LV.open {w : World} {v : Value} {s : Int} {d : Nat} {c : Rat} {cs : List (List UInt8 × Rat)} (h : LV w v s d c cs) : ∃ ao n cap tx, v = .agg #[.int .i64 s, .slice ao n cap, .string tx] ∧ LV w (.agg #[.int .i64 s, .slice ao n cap, .string tx]) s d c cs := by
  have h' := h
  obtain ⟨ao, g, off, cap, rfl, -⟩ := h'
  exact ⟨_, _, _, _, rfl, h⟩
/-- a box and the expression in it -/
structure BX (w : World) (S : Nat) (s : Int) (ao : Option Addr) (n cap : Nat) (tx : ByteArray) (d : Nat) (c : Rat) (cs : List (List UInt8 × Rat)) : Prop where
  h : w.heap[S]? = some (.cells #[.int .i64 s, .slice ao n cap, .string tx] 26 (0, 0))
  l : LV w (.agg #[.int .i64 s, .slice ao n cap, .string tx]) s d c cs
section
variable {w w' : World} {S : Nat} {s : Int} {ao : Option Addr} {n cap : Nat} {tx : ByteArray} {d : Nat} {c : Rat} {cs : List (List UInt8 × Rat)}
theorem BX.far (h : BX w S s ao n cap tx d c cs) (hb : Below w.heap.size w w') : BX w' S s ao n cap tx d c cs := ⟨(hb.block _ (lt_of_heap h.h)).trans h.h, h.l.far hb⟩
theorem BX.mono (h : BX w S s ao n cap tx d c cs) {e : Nat} (he : d ≤ e) : BX w S s ao n cap tx e c cs := ⟨h.h, h.l.mono he⟩
theorem alloc_far (w : World) (o : Obj) : Below w.heap.size w (w.alloc o) := (Below.refl _ _).alloc (Nat.le_refl _) _
theorem BX.new (h : LV w (.agg #[.int .i64 s, .slice ao n cap, .string tx]) s d c cs) : BX (w.alloc (.cells #[.int .i64 s, .slice ao n cap, .string tx] 26)) w.heap.size s ao n cap tx d c cs :=
  ⟨heap_alloc_new w _, h.far (alloc_far w _)⟩
theorem BX.but (h : BX w S s ao n cap tx d c cs) {T : Nat} {x y z x' y' z' : Value} (hT : w.heap[T]? = some (.cells #[x, y, z] 26 (0, 0))) (hne : S ≠ T) : BX (((w.setCell ⟨T, 0, none⟩ x').setCell ⟨T, 1, none⟩ y').setCell ⟨T, 2, none⟩ z') S s ao n cap tx d c cs :=
  ⟨(set3_other _ _ _ hne).trans h.h, h.l.but hT (by decide) (fun _ hg => set3_other _ _ _ hg)⟩
theorem BX.put (h : LV w (.agg #[.int .i64 s, .slice ao n cap, .string tx]) s d c cs) {x y z : Value} (hT : w.heap[S]? = some (.cells #[x, y, z] 26 (0, 0))) : BX (((w.setCell ⟨S, 0, none⟩ (.int .i64 s)).setCell ⟨S, 1, none⟩ (.slice ao n cap)).setCell ⟨S, 2, none⟩ (.string tx)) S s ao n cap tx d c cs :=
  ⟨set3_heap hT, h.but hT (by decide) (fun _ hg => set3_other _ _ _ hg)⟩
theorem BX.lt (h : BX w S s ao n cap tx d c cs) : S < w.heap.size := lt_of_heap h.h
end
theorem grown_far {w w' : World} {C : Nat} (h : w.grownBy w' (some C)) (hC : w.heap.size ≤ C) : Below w.heap.size w w' := (Below.refl w.heap.size w).grown h (Nat.le_refl _) (fun k hk => by cases hk; exact hC)
/-- New, then an expression is drawn -/
theorem linPost_open {C : Nat} {ao : Option Addr} {n cap : Nat} {w : World} {s : Int} {e : Ending} {w' : World} (h : LinPost C ao n cap w s e w') : ∃ cs q bo m cp tx, e = .returned (.agg #[.int .i64 s, .slice bo m cp, .string tx]) ∧ LV w' (.agg #[.int .i64 s, .slice bo m cp, .string tx]) s 26 q cs ∧ w.grownBy w' (some C) := by
  obtain ⟨cs, q, v, rfl, hl, -, hg⟩ := h
  obtain ⟨bo, m, cp, tx, rfl, hl⟩ := hl.open
  exact ⟨cs, q, bo, m, cp, tx, rfl, hl, hg⟩
theorem new_far {w w' : World} {o : Obj} (h : (w.alloc o).grownBy w' (some w.heap.size)) : Below w.heap.size w w' :=
  ((Below.refl w.heap.size w).alloc (Nat.le_refl _) o).grown h (by simp) (fun k hk => by cases hk; exact Nat.le_refl _)
theorem ch_newL {w : World} {ao : Option Addr} {len cap : Nat} (h : ArgI w ao len cap) : Ch w.heap.size ao (min len 400) cap (w.alloc (.cells #[.slice ao (min len 400) cap, .int .i64 0] 63)) := by
  refine ⟨⟨0, Nat.zero_le _, heap_alloc_new w _⟩, by omega, fun hn => ?_⟩
  obtain ⟨b, off, e, hb, hx⟩ := h.rd (by have := h.le; omega)
  refine ⟨b, off, e, hb, fun t ht => ?_⟩
  obtain ⟨x, hx⟩ := hx t (by omega)
  exact ⟨x, (World.cell?_alloc_past _ _ _ hb).trans hx⟩
theorem ArgI.far {w w' : World} {ao : Option Addr} {len cap : Nat} (h : ArgI w ao len cap) (hb : Below w.heap.size w w') : ArgI w' ao len cap := by
  refine ⟨h.le, h.most, fun h0 => ?_⟩
  obtain ⟨b, off, e, hlt, hx⟩ := h.rd h0
  refine ⟨b, off, e, Nat.lt_of_lt_of_le hlt hb.size, fun t ht => ?_⟩
  obtain ⟨x, hx⟩ := hx t ht
  exact ⟨x, (hb.cell (p := ⟨b, off + t, none⟩) hlt).trans hx⟩
/-- a row of ints of the call's own reads as numbers that came in -/
theorem argI_row {w : World} {base : Nat} {e : TypeId} {v : Value} {n : Nat} {xs : List Value} (h : w.ownsRow base e 1 v n xs) (hx : ∀ u ∈ xs, ∃ x : Int, u = .int .i64 x) : ∃ ao cap, v = .slice ao n cap ∧ ArgI w ao n cap := by
  rcases h.2 with ⟨rfl, hn⟩ | ⟨g, cap, cur, hv, hb, hg, hn, hc, hs, htake⟩
  · subst hn
    exact ⟨none, 0, rfl, Nat.le_refl _, Nat.zero_le _, fun h => absurd h (by omega)⟩
  · refine ⟨some ⟨g, 0, none⟩, cap, hv, hn, hc, fun h0 => ⟨g, 0, rfl, lt_of_heap hg, fun t ht => ?_⟩⟩
    have hl := h.1
    have hu : xs[t]? = some (xs[t]'(by omega)) := List.getElem?_eq_getElem (by omega)
    obtain ⟨x, hx⟩ := hx (xs[t]'(by omega)) (List.getElem_mem _)
    rw [hx] at hu
    have := h.cells (g := g) (by rw [hv]; rfl) t _ hu
    rw [show (⟨g, 0, none⟩ : Addr).add t = ⟨g, t, none⟩ by unfold Addr.add; split <;> simp_all] at this
    exact ⟨x, by rw [Nat.zero_add]; exact this⟩
/-- numbers that came in are appended to a row of the call's own -/
theorem wpList_append_arg_ints {w : World} {ops : Array Oper} {rest : List Oper} {o : Oper} {a : Act} {Q : Exit → Act → World → Prop} (hgd : o.guard = none) (s x : Operand) (t : TypeId)
    (ho : o.op = .call { callee := .builtin .append, args := #[s, x], argTypes := #[t, t] })
    (base : Nat) (e : TypeId) (i : TypeInfo) (z : Value) (ht : Tryz.prog.underlying t = some (.slice e)) (hi : Tryz.prog.info? e = some i) (hz : i.zero = some z)
    (hsize : i.size = 1) (hby : i.bytes = 8) (hzs : z.cells.size = 1)
    (v : Value) (n : Nat) (xs : List Value) (hs : a.eval s = v) (hown : w.ownsRow base e 1 v n xs) (hxs : ∀ u ∈ xs, ∃ x : Int, u = .int .i64 x)
    (ao : Option Addr) (m c : Nat) (hx : a.eval x = .slice ao m c) (hA : ArgI w ao m c)
    (h63 : n + m ≤ maxLen) (hbytes : (n + m) * 8 ≤ 140737488355328) (hbase : base ≤ w.heap.size)
    (h : ∀ bo cap w', ArgI w' bo (n + m) cap → w.grownBy w' v.ownBlock → wpList Tryz.prog ops Q rest (a.put o.dst (.slice bo (n + m) cap)) w') : wpList Tryz.prog ops Q (o :: rest) a w := by
  cases ao with
  | none =>
    have hc : c = 0 := by
      rcases Nat.eq_zero_or_pos c with h0 | h0
      · exact h0
      · obtain ⟨b, off, e, -⟩ := hA.rd h0
        cases e
    have hm : m = 0 := by have := hA.le; omega
    subst hc hm
    obtain ⟨bo, cap, hv, hR⟩ := argI_row hown hxs
    refine wpList_append_own_none hgd s x t ho base e i 1 ht hi v n xs hs hown hx ?_
    rw [hv]
    exact h bo cap w hR (grown_refl _ _)
  | some ad =>
    obtain ⟨news, hl, hn, hv⟩ : ∃ news : List Value, news.length = m ∧ (∀ j u, news[j]? = some u → w.cell? (ad.add j) = some u) ∧ ∀ u ∈ news, ∃ x : Int, u = .int .i64 x := by
      rcases Nat.eq_zero_or_pos m with h0 | h0
      · exact ⟨[], h0.symm, fun j u h => by simp at h, fun u h => by simp at h⟩
      · obtain ⟨b, off, e, hlt, hq⟩ := hA.rd (by have := hA.le; omega)
        cases e
        refine ⟨(List.range m).map fun j => (w.cell? ⟨b, off + j, none⟩).getD undef, by simp, fun j u hu => ?_, fun u hu => ?_⟩
        · simp only [List.getElem?_map, Option.map_eq_some_iff] at hu
          obtain ⟨k, hk, rfl⟩ := hu
          rw [List.getElem?_eq_some_iff] at hk
          obtain ⟨hk, rfl⟩ := hk
          simp at hk
          obtain ⟨x, hq⟩ := hq j hk
          rw [show (⟨b, off, none⟩ : Addr).add j = ⟨b, off + j, none⟩ by unfold Addr.add; split <;> simp_all]
          simp [hq]
        · obtain ⟨k, hk, rfl⟩ := List.mem_map.1 hu
          obtain ⟨x, hq⟩ := hq k (List.mem_range.1 hk)
          exact ⟨x, by rw [hq]; rfl⟩
    refine wpList_append_own w hgd s x t ho base e i z 1 8 ht hi hz hsize hby hzs (by decide) v n xs hs hown ad m c news hx (by rw [hl, Nat.mul_one]) hn (fun u hu => by obtain ⟨x, rfl⟩ := hv u hu; simp [Value.oneCell']) h63 hbytes hbase fun v' w' h2 h3 _ => ?_
    obtain ⟨bo, cap, rfl, hR⟩ := argI_row h2 (fun u hu => (List.mem_append.1 hu).elim (hxs u) (hv u))
    exact h bo cap w' hR h3
theorem boxes3 {w : World} {s : Int} {aa : Option Addr} {na pa : Nat} {ta : ByteArray} {da : Nat} {qa : Rat} {ca : List (List UInt8 × Rat)} {ab : Option Addr} {nb pb : Nat} {tb : ByteArray} {qb : Rat} {cb : List (List UInt8 × Rat)} {ac : Option Addr} {nc pc : Nat} {tc : ByteArray} {qc : Rat} {cc : List (List UInt8 × Rat)}
    (ha : LV w (.agg #[.int .i64 s, .slice aa na pa, .string ta]) s da qa ca) (hb : LV w (.agg #[.int .i64 s, .slice ab nb pb, .string tb]) s da qb cb) (hc : LV w (.agg #[.int .i64 s, .slice ac nc pc, .string tc]) s da qc cc) :
    BX (((w.alloc (.cells #[.int .i64 s, .slice aa na pa, .string ta] 26)).alloc (.cells #[.int .i64 s, .slice ab nb pb, .string tb] 26)).alloc (.cells #[.int .i64 s, .slice ac nc pc, .string tc] 26)) w.heap.size s aa na pa ta da qa ca ∧
    BX (((w.alloc (.cells #[.int .i64 s, .slice aa na pa, .string ta] 26)).alloc (.cells #[.int .i64 s, .slice ab nb pb, .string tb] 26)).alloc (.cells #[.int .i64 s, .slice ac nc pc, .string tc] 26)) (w.heap.size + 1) s ab nb pb tb da qb cb ∧
    BX (((w.alloc (.cells #[.int .i64 s, .slice aa na pa, .string ta] 26)).alloc (.cells #[.int .i64 s, .slice ab nb pb, .string tb] 26)).alloc (.cells #[.int .i64 s, .slice ac nc pc, .string tc] 26)) (w.heap.size + 1 + 1) s ac nc pc tc da qc cc ∧
    Below w.heap.size w (((w.alloc (.cells #[.int .i64 s, .slice aa na pa, .string ta] 26)).alloc (.cells #[.int .i64 s, .slice ab nb pb, .string tb] 26)).alloc (.cells #[.int .i64 s, .slice ac nc pc, .string tc] 26)) := by
  obtain ⟨h1, h2, h3, hb3⟩ := newL3 w (.cells #[.int .i64 s, .slice aa na pa, .string ta] 26) (.cells #[.int .i64 s, .slice ab nb pb, .string tb] 26) (.cells #[.int .i64 s, .slice ac nc pc, .string tc] 26)
  exact ⟨⟨h1, ha.far hb3⟩, ⟨h2, hb.far hb3⟩, ⟨h3, hc.far hb3⟩, hb3⟩
set_option maxRecDepth 100000 in
theorem infoIntL : (Tryz.prog.info? 3).map (fun i => (i.zero, i.size, i.bytes)) = some (some (.int .i64 0), 1, 8) := by kernel_rfl
theorem tx_m1 : TX (-1) = ⟨#[45, 49]⟩ := (tx_of (by decide +kernel)).symm
theorem DS_m1 : DS 26 (-1) := ⟨by decide +kernel, by decide +kernel⟩
theorem BX.zero {w : World} {S : Nat} {s : Int} {ao : Option Addr} {n cap : Nat} {tx : ByteArray} {d : Nat} {c : Rat} {cs : List (List UInt8 × Rat)} (h : BX w S s ao n cap tx d c cs) (hc : c = 0) (hf : ∀ n, cof cs n = 0) : n = 0 ∧ tx = ⟨#[48]⟩ := by
  obtain ⟨ao', g, off, cap', he, -, -, hg, -⟩ := h.l
  injection he with he
  injection he with he
  injection he with _ he
  injection he with he1 he
  injection he with he2 _
  injection he1 with e1 e2 e3
  injection he2 with e4
  subst hc
  have : cs = [] := can_ext ord_ltB _ _ hg.can trivial (fun n => by rw [hf n]; rfl)
  rw [this] at e2
  exact ⟨e2, e4.trans tx_int_zero⟩
theorem BX.same {w : World} {S S' : Nat} {s : Int} {ao ao' : Option Addr} {n cap n' cap' : Nat} {tx tx' : ByteArray} {d d' : Nat} {c c' : Rat} {cs cs' : List (List UInt8 × Rat)} (h : BX w S s ao n cap tx d c cs) (h' : BX w S' s ao' n' cap' tx' d' c' cs') (hc : c = c') (hf : ∀ n, cof cs n = cof cs' n) :
    Calls Tryz.prog 15 #[.agg #[.int .i64 s, .slice ao n cap, .string tx], .agg #[.int .i64 s, .slice ao' n' cap', .string tx']] w fun e w' => e = .returned (.bool true) ∧ Below w.heap.size w w' := by
  obtain ⟨b, g, off, cp, he, hr, -, hg, -⟩ := h.l
  obtain ⟨b', g', off', cp', he', hr', -, hg', -⟩ := h'.l
  rw [he, he']
  subst hc
  obtain rfl : cs = cs' := can_ext ord_ltB _ _ hg.can hg'.can hf
  exact same_ok w s cs (TX c) b g off cp b' g' off' cp' hr hr'
section
set_option maxRecDepth 100000
set_option maxHeartbeats 16000000
theorem space_any (al : Option Addr) (ll cl : Nat) (am : Option Addr) (lm cm : Nat) (an : Option Addr) (ln cn : Nat) (s : Int) (w : World) (hE : Env w) (hl : ArgI w al ll cl) (hm : ArgI w am lm cm) (hn : ArgI w an ln cn) (hr : (1 + ln) * 8 ≤ 140737488355328) :
    Calls Tryz.prog 3 #[.slice al ll cl, .slice am lm cm, .slice an ln cn, .int .i64 s] w fun e w' => e = .returned (.bool true) ∧ Below w.heap.size w w' := by
  have HE := Lib.hid hE
  have HAl := Lib.hid hl
  have HAm := Lib.hid hm
  have HAn := Lib.hid hn
  have HR := Lib.hid hr
  obtain ⟨so, hso⟩ : ∃ so, modF s 2 = so := ⟨_, rfl⟩
  have hs0 : 0 ≤ so := by rw [← hso]; unfold modF; omega
  have hs1 : so ≤ 1 := by rw [← hso]; unfold modF; omega
  have hmod := mod_q s 2 w (by decide) (by decide)
  rw [hso] at hmod
  have HS : Hid (2 + so = 2 ∨ 2 + so = 3) := Lib.hid (by omega)
  obtain ⟨i0, hi, hz0, hz1, hz2⟩ := info_parts infoIntL
  clear hE hl hm hn hr hso
  go_enter Tryz.func3, Tryz.ntmps3
  go_wp2_with fail
  refine hmod.mono ?_
  rintro e w0 ⟨rfl, rfl⟩
  clear hmod
  go_wp2_with fail
  refine (new_any al ll cl _ HAl.out).mono ?_
  rintro e w1 ⟨rfl, rfl⟩
  go_wp2_with fail
  generalize 2 + so = sv at *
  clear hs0 hs1
  refine (linear_any _ _ _ _ sv _ (ch_newL HAl.out)).mono ?_
  intro e w1 hp
  obtain ⟨ca, qa, aa, na, pa, ta, rfl, la, hg⟩ := linPost_open hp
  have HB1 := Lib.hid (new_far hg)
  have LA := Lib.hid la
  clear hp hg la
  go_wp2_with fail
  refine (new_any am lm cm _ (HAm.out.far HB1.out)).mono ?_
  rintro e w2 ⟨rfl, rfl⟩
  go_wp2_with fail
  refine (linear_any _ _ _ _ sv _ (ch_newL (HAm.out.far HB1.out))).mono ?_
  intro e w2 hp
  obtain ⟨cb, qb, ab, nb, pb, tb, rfl, lb, hg⟩ := linPost_open hp
  replace LA := Lib.hid (LA.out.far (new_far hg))
  have HB2 := Lib.hid (HB1.out.trans ((new_far hg).mono HB1.out.size))
  have LB := Lib.hid lb
  clear hp hg lb HB1
  go_wp2_with fail
  refine (new_any an ln cn _ (HAn.out.far HB2.out)).mono ?_
  rintro e w3 ⟨rfl, rfl⟩
  go_wp2_with fail
  refine (linear_any _ _ _ _ sv _ (ch_newL (HAn.out.far HB2.out))).mono ?_
  intro e w3 hp
  obtain ⟨cc, qc, ac, nc, pc, tc, rfl, lc, hg⟩ := linPost_open hp
  replace LA := Lib.hid (LA.out.far (new_far hg))
  replace LB := Lib.hid (LB.out.far (new_far hg))
  have HB3 := Lib.hid (HB2.out.trans ((new_far hg).mono HB2.out.size))
  have LC := Lib.hid lc
  clear hp hg lc HB2
  obtain ⟨bxa, bxb, bxc, hb3⟩ := boxes3 LA.out LB.out LC.out
  have HXa := Lib.hid bxa
  have HXb := Lib.hid bxb
  have HXc := Lib.hid bxc
  have HB4 := Lib.hid (HB3.out.trans (hb3.mono HB3.out.size))
  have HAn4 := Lib.hid (HAn.out.far HB4.out)
  clear bxa bxb bxc hb3 LA LB LC
  have how := World.ownsRow_lit (base := w3.heap.size + 1 + 1 + 1) (e := 3) (size := 1) (((w3.alloc (.cells #[.int .i64 sv, .slice aa na pa, .string ta] 26)).alloc (.cells #[.int .i64 sv, .slice ab nb pb, .string tb] 26)).alloc (.cells #[.int .i64 sv, .slice ac nc pc, .string tc] 26)) #[.int .i64 s] 1 (by simp) (by decide) rfl
  rw [show (((w3.alloc (.cells #[.int .i64 sv, .slice aa na pa, .string ta] 26)).alloc (.cells #[.int .i64 sv, .slice ab nb pb, .string tb] 26)).alloc (.cells #[.int .i64 sv, .slice ac nc pc, .string tc] 26)).heap.size = w3.heap.size + 1 + 1 + 1 by simp] at how
  have HOW := Lib.hid how
  clear how
  go_wp2_with (at_builtin; go_loud (refine wpList_append_arg_ints rfl _ _ 22 rfl (w3.heap.size + 1 + 1 + 1) 3 i0 (.int .i64 0) Tryz.underlying22 hi hz0 hz1 hz2 rfl (.slice (some ⟨w3.heap.size + 1 + 1 + 1, 0, none⟩) 1 1) 1 [.int .i64 s] rfl HOW.out (fun u hu => ⟨s, by simpa using hu⟩) an ln cn rfl (HAn4.out.far (alloc_far _ _)) (by have := HR.out; unfold maxLen; omega) HR.out (by simp) ?_))
  intro bo bc w5 hA hg
  have hf5 : Below (((w3.alloc (.cells #[.int .i64 sv, .slice aa na pa, .string ta] 26)).alloc (.cells #[.int .i64 sv, .slice ab nb pb, .string tb] 26)).alloc (.cells #[.int .i64 sv, .slice ac nc pc, .string tc] 26)).heap.size (((w3.alloc (.cells #[.int .i64 sv, .slice aa na pa, .string ta] 26)).alloc (.cells #[.int .i64 sv, .slice ab nb pb, .string tb] 26)).alloc (.cells #[.int .i64 sv, .slice ac nc pc, .string tc] 26)) w5 := new_far (o := .cells #[.int .i64 s] 3) (by rw [show (((w3.alloc (.cells #[.int .i64 sv, .slice aa na pa, .string ta] 26)).alloc (.cells #[.int .i64 sv, .slice ab nb pb, .string tb] 26)).alloc (.cells #[.int .i64 sv, .slice ac nc pc, .string tc] 26)).heap.size = w3.heap.size + 1 + 1 + 1 by simp]; exact hg)
  replace HXa := Lib.hid (HXa.out.far hf5)
  replace HXb := Lib.hid (HXb.out.far hf5)
  replace HXc := Lib.hid (HXc.out.far hf5)
  have HB5 := Lib.hid (HB4.out.trans (hf5.mono HB4.out.size))
  have HAn5 := Lib.hid hA
  clear hA hg hf5 HB4 HAn4 HOW
  have HA0 := Lib.hid HB3.out.size
  clear HB3
  generalize w3.heap.size = SA at *
  generalize SA + 1 = SB at *
  generalize SB + 1 = SC at *
  go_wp2_with fail
  refine (new_any _ _ _ _ HAn5.out).mono ?_
  rintro e w6 ⟨rfl, rfl⟩
  go_wp2_with fail
  refine (number_any _ _ _ _ _ (ch_newL HAn5.out)).mono ?_
  rintro e w6 ⟨k, dk, rfl, -, hg⟩
  have hf6 := new_far hg
  replace HXa := Lib.hid (HXa.out.far hf6)
  replace HXb := Lib.hid (HXb.out.far hf6)
  replace HXc := Lib.hid (HXc.out.far hf6)
  have HB := Lib.hid (HB5.out.trans (hf6.mono HB5.out.size))
  clear hg hf6 HB5 HAn5 HAl HAm HAn HR hi hz0 hz1 hz2
  have za0 := heap_cell HXa.out.h 0
  have za1 := heap_cell HXa.out.h 1
  have za2 := heap_cell HXa.out.h 2
  have la := HXa.out.lt
  have zb0 := heap_cell HXb.out.h 0
  have zb1 := heap_cell HXb.out.h 1
  have zb2 := heap_cell HXb.out.h 2
  have lb := HXb.out.lt
  go_wp2_with fail
  clear za0 za1 za2 zb0 zb1 zb2 la lb
  refine (addL (d := 26) HXa.out.l HXb.out.l HS.out (by decide) (by decide) (HE.out.far HB.out)).mono ?_
  rintro e w7 ⟨cx, v, rfl, hl, hf, hb⟩
  obtain ⟨ax, nx, px, tx, rfl, hl⟩ := hl.open
  replace HXa := Lib.hid (HXa.out.far hb)
  replace HXb := Lib.hid (HXb.out.far hb)
  replace HXc := Lib.hid (HXc.out.far hb)
  replace HB := Lib.hid (HB.out.trans (hb.mono HB.out.size))
  have Lx := Lib.hid hl
  have Fx := Lib.hid hf
  clear hl hf hb
  have zb0 := heap_cell HXb.out.h 0
  have zb1 := heap_cell HXb.out.h 1
  have zb2 := heap_cell HXb.out.h 2
  have lb := HXb.out.lt
  have za0 := heap_cell HXa.out.h 0
  have za1 := heap_cell HXa.out.h 1
  have za2 := heap_cell HXa.out.h 2
  have la := HXa.out.lt
  go_wp2_with fail
  clear zb0 zb1 zb2 za0 za1 za2 lb la
  replace HXa := Lib.hid (HXa.out.far (alloc_far w7 (.cells #[.int .i64 sv, .slice ax nx px, .string tx] 26)))
  replace HXb := Lib.hid (HXb.out.far (alloc_far w7 (.cells #[.int .i64 sv, .slice ax nx px, .string tx] 26)))
  replace HXc := Lib.hid (HXc.out.far (alloc_far w7 (.cells #[.int .i64 sv, .slice ax nx px, .string tx] 26)))
  have HXx := Lib.hid (BX.new Lx.out)
  replace HB := Lib.hid (HB.out.trans ((alloc_far w7 (.cells #[.int .i64 sv, .slice ax nx px, .string tx] 26)).mono HB.out.size))
  clear Lx
  generalize w7.alloc (.cells #[.int .i64 sv, .slice ax nx px, .string tx] 26) = w8 at *
  generalize w7.heap.size = Sx at *
  refine (addL (d := 26) HXb.out.l HXa.out.l HS.out (by decide) (by decide) (HE.out.far HB.out)).mono ?_
  rintro e w9 ⟨cy, v, rfl, hl, hf, hb⟩
  obtain ⟨ay, ny, py, ty, rfl, hl⟩ := hl.open
  replace HXa := Lib.hid (HXa.out.far hb)
  replace HXb := Lib.hid (HXb.out.far hb)
  replace HXc := Lib.hid (HXc.out.far hb)
  replace HXx := Lib.hid (HXx.out.far hb)
  replace HB := Lib.hid (HB.out.trans (hb.mono HB.out.size))
  have Ly := Lib.hid hl
  have Fy := Lib.hid hf
  clear hl hf hb
  have zx0 := heap_cell HXx.out.h 0
  have zx1 := heap_cell HXx.out.h 1
  have zx2 := heap_cell HXx.out.h 2
  have lx := HXx.out.lt
  have zc0 := heap_cell HXc.out.h 0
  have zc1 := heap_cell HXc.out.h 1
  have zc2 := heap_cell HXc.out.h 2
  have lc := HXc.out.lt
  go_wp2_with fail
  clear zx0 zx1 zx2 zc0 zc1 zc2 lx lc
  replace HXa := Lib.hid (HXa.out.far (alloc_far w9 (.cells #[.int .i64 sv, .slice ay ny py, .string ty] 26)))
  replace HXb := Lib.hid (HXb.out.far (alloc_far w9 (.cells #[.int .i64 sv, .slice ay ny py, .string ty] 26)))
  replace HXc := Lib.hid (HXc.out.far (alloc_far w9 (.cells #[.int .i64 sv, .slice ay ny py, .string ty] 26)))
  replace HXx := Lib.hid (HXx.out.far (alloc_far w9 (.cells #[.int .i64 sv, .slice ay ny py, .string ty] 26)))
  have HXy := Lib.hid (BX.new Ly.out)
  replace HB := Lib.hid (HB.out.trans ((alloc_far w9 (.cells #[.int .i64 sv, .slice ay ny py, .string ty] 26)).mono HB.out.size))
  clear Ly
  generalize w9.alloc (.cells #[.int .i64 sv, .slice ay ny py, .string ty] 26) = w10 at *
  generalize w9.heap.size = Sy at *
  refine (addL (d := (3 * 26 + 1)) HXx.out.l (HXc.out.l.mono (by decide)) HS.out (by decide) (by decide) (HE.out.far HB.out)).mono ?_
  rintro e w11 ⟨cp, v, rfl, hl, hf, hb⟩
  obtain ⟨ap, np, pp, tp, rfl, hl⟩ := hl.open
  replace HXa := Lib.hid (HXa.out.far hb)
  replace HXb := Lib.hid (HXb.out.far hb)
  replace HXc := Lib.hid (HXc.out.far hb)
  replace HXx := Lib.hid (HXx.out.far hb)
  replace HXy := Lib.hid (HXy.out.far hb)
  replace HB := Lib.hid (HB.out.trans (hb.mono HB.out.size))
  have Lp := Lib.hid hl
  have Fp := Lib.hid hf
  clear hl hf hb
  have zb0 := heap_cell HXb.out.h 0
  have zb1 := heap_cell HXb.out.h 1
  have zb2 := heap_cell HXb.out.h 2
  have lb := HXb.out.lt
  have zc0 := heap_cell HXc.out.h 0
  have zc1 := heap_cell HXc.out.h 1
  have zc2 := heap_cell HXc.out.h 2
  have lc := HXc.out.lt
  go_wp2_with fail
  clear zb0 zb1 zb2 zc0 zc1 zc2 lb lc
  replace HXa := Lib.hid (HXa.out.far (alloc_far w11 (.cells #[.int .i64 sv, .slice ap np pp, .string tp] 26)))
  replace HXb := Lib.hid (HXb.out.far (alloc_far w11 (.cells #[.int .i64 sv, .slice ap np pp, .string tp] 26)))
  replace HXc := Lib.hid (HXc.out.far (alloc_far w11 (.cells #[.int .i64 sv, .slice ap np pp, .string tp] 26)))
  replace HXx := Lib.hid (HXx.out.far (alloc_far w11 (.cells #[.int .i64 sv, .slice ap np pp, .string tp] 26)))
  replace HXy := Lib.hid (HXy.out.far (alloc_far w11 (.cells #[.int .i64 sv, .slice ap np pp, .string tp] 26)))
  have HXp := Lib.hid (BX.new Lp.out)
  replace HB := Lib.hid (HB.out.trans ((alloc_far w11 (.cells #[.int .i64 sv, .slice ap np pp, .string tp] 26)).mono HB.out.size))
  clear Lp
  generalize w11.alloc (.cells #[.int .i64 sv, .slice ap np pp, .string tp] 26) = w12 at *
  generalize w11.heap.size = Sp at *
  refine (addL (d := 26) HXb.out.l HXc.out.l HS.out (by decide) (by decide) (HE.out.far HB.out)).mono ?_
  rintro e w13 ⟨cq, v, rfl, hl, hf, hb⟩
  obtain ⟨aq, nq, pq, tq, rfl, hl⟩ := hl.open
  replace HXa := Lib.hid (HXa.out.far hb)
  replace HXb := Lib.hid (HXb.out.far hb)
  replace HXc := Lib.hid (HXc.out.far hb)
  replace HXx := Lib.hid (HXx.out.far hb)
  replace HXy := Lib.hid (HXy.out.far hb)
  replace HXp := Lib.hid (HXp.out.far hb)
  replace HB := Lib.hid (HB.out.trans (hb.mono HB.out.size))
  have Lq := Lib.hid hl
  have Fq := Lib.hid hf
  clear hl hf hb
  have za0 := heap_cell HXa.out.h 0
  have za1 := heap_cell HXa.out.h 1
  have za2 := heap_cell HXa.out.h 2
  have la := HXa.out.lt
  go_wp2_with fail
  clear za0 za1 za2 la
  have Da := Lib.hid HXa.out.lt
  have Db := Lib.hid HXb.out.lt
  have Dc := Lib.hid HXc.out.lt
  have Dx := Lib.hid HXx.out.lt
  have Dy := Lib.hid HXy.out.lt
  have Dp := Lib.hid HXp.out.lt
  replace HXa := Lib.hid (HXa.out.far (alloc_far w13 (.cells #[.int .i64 sv, .slice aq nq pq, .string tq] 26)))
  replace HXb := Lib.hid (HXb.out.far (alloc_far w13 (.cells #[.int .i64 sv, .slice aq nq pq, .string tq] 26)))
  replace HXc := Lib.hid (HXc.out.far (alloc_far w13 (.cells #[.int .i64 sv, .slice aq nq pq, .string tq] 26)))
  replace HXx := Lib.hid (HXx.out.far (alloc_far w13 (.cells #[.int .i64 sv, .slice aq nq pq, .string tq] 26)))
  replace HXy := Lib.hid (HXy.out.far (alloc_far w13 (.cells #[.int .i64 sv, .slice aq nq pq, .string tq] 26)))
  replace HXp := Lib.hid (HXp.out.far (alloc_far w13 (.cells #[.int .i64 sv, .slice aq nq pq, .string tq] 26)))
  have HXq := Lib.hid (BX.new Lq.out)
  replace HB := Lib.hid (HB.out.trans ((alloc_far w13 (.cells #[.int .i64 sv, .slice aq nq pq, .string tq] 26)).mono HB.out.size))
  clear Lq
  generalize w13.alloc (.cells #[.int .i64 sv, .slice aq nq pq, .string tq] 26) = w14 at *
  generalize w13.heap.size = Sq at *
  have HQ : Hid (w0.heap.size ≤ Sq) := Lib.hid (by have := Da.out; have := HA0.out; omega)
  refine (addL (d := (3 * 26 + 1)) (HXa.out.l.mono (by decide)) HXq.out.l HS.out (by decide) (by decide) (HE.out.far HB.out)).mono ?_
  rintro e w15 ⟨cr, v, rfl, hl, hf, hb⟩
  obtain ⟨ar, nr, pr, tr, rfl, hl⟩ := hl.open
  replace HXa := Lib.hid (HXa.out.far hb)
  replace HXb := Lib.hid (HXb.out.far hb)
  replace HXc := Lib.hid (HXc.out.far hb)
  replace HXx := Lib.hid (HXx.out.far hb)
  replace HXy := Lib.hid (HXy.out.far hb)
  replace HXp := Lib.hid (HXp.out.far hb)
  replace HXq := Lib.hid (HXq.out.far hb)
  replace HB := Lib.hid (HB.out.trans (hb.mono HB.out.size))
  have Lr := Lib.hid hl
  have Fr := Lib.hid hf
  clear hl hf hb
  have g0 := heap_cell HXq.out.h 0
  have g1 := heap_cell HXq.out.h 1
  have g2 := heap_cell HXq.out.h 2
  have fr := fun i => heap_fz HXq.out.h i
  have hq := HXq.out.h
  replace HXa := Lib.hid (HXa.out.but (x' := .int .i64 sv) (y' := .slice ar nr pr) (z' := .string tr) hq (Nat.ne_of_lt Da.out))
  replace HXb := Lib.hid (HXb.out.but (x' := .int .i64 sv) (y' := .slice ar nr pr) (z' := .string tr) hq (Nat.ne_of_lt Db.out))
  replace HXc := Lib.hid (HXc.out.but (x' := .int .i64 sv) (y' := .slice ar nr pr) (z' := .string tr) hq (Nat.ne_of_lt Dc.out))
  replace HXx := Lib.hid (HXx.out.but (x' := .int .i64 sv) (y' := .slice ar nr pr) (z' := .string tr) hq (Nat.ne_of_lt Dx.out))
  replace HXy := Lib.hid (HXy.out.but (x' := .int .i64 sv) (y' := .slice ar nr pr) (z' := .string tr) hq (Nat.ne_of_lt Dy.out))
  replace HXp := Lib.hid (HXp.out.but (x' := .int .i64 sv) (y' := .slice ar nr pr) (z' := .string tr) hq (Nat.ne_of_lt Dp.out))
  replace HXq := Lib.hid (BX.put Lr.out hq)
  replace HB := Lib.hid (((HB.out.setCell (p := ⟨Sq, 0, none⟩) HQ.out (.int .i64 sv)).setCell (p := ⟨Sq, 1, none⟩) HQ.out (.slice ar nr pr)).setCell (p := ⟨Sq, 2, none⟩) HQ.out (.string tr))
  clear Lr hq
  have zx0 := heap_cell HXx.out.h 0
  have zx1 := heap_cell HXx.out.h 1
  have zx2 := heap_cell HXx.out.h 2
  go_wp2_with fail
  clear zx0 zx1 zx2 g0 g1 g2 fr
  generalize (((w15.setCell ⟨Sq, 0, none⟩ (.int .i64 sv)).setCell ⟨Sq, 1, none⟩ (.slice ar nr pr)).setCell ⟨Sq, 2, none⟩ (.string tr)) = w16 at *
  refine (scaleTL (d := (3 * 26 + 1)) HXx.out.l HS.out (DS.mono dk (by decide)) (by decide) (HE.out.far HB.out)).mono ?_
  rintro e w17 ⟨cu, v, rfl, hl, hf, hb⟩
  obtain ⟨au, nu, pu, tu, rfl, hl⟩ := hl.open
  replace HXa := Lib.hid (HXa.out.far hb)
  replace HXb := Lib.hid (HXb.out.far hb)
  replace HXc := Lib.hid (HXc.out.far hb)
  replace HXx := Lib.hid (HXx.out.far hb)
  replace HXy := Lib.hid (HXy.out.far hb)
  replace HXp := Lib.hid (HXp.out.far hb)
  replace HXq := Lib.hid (HXq.out.far hb)
  replace HB := Lib.hid (HB.out.trans (hb.mono HB.out.size))
  have Lu := Lib.hid hl
  have Fu := Lib.hid hf
  clear hl hf hb
  have za0 := heap_cell HXa.out.h 0
  have za1 := heap_cell HXa.out.h 1
  have za2 := heap_cell HXa.out.h 2
  have la := HXa.out.lt
  go_wp2_with fail
  clear za0 za1 za2 la
  replace HXa := Lib.hid (HXa.out.far (alloc_far w17 (.cells #[.int .i64 sv, .slice au nu pu, .string tu] 26)))
  replace HXb := Lib.hid (HXb.out.far (alloc_far w17 (.cells #[.int .i64 sv, .slice au nu pu, .string tu] 26)))
  replace HXc := Lib.hid (HXc.out.far (alloc_far w17 (.cells #[.int .i64 sv, .slice au nu pu, .string tu] 26)))
  replace HXx := Lib.hid (HXx.out.far (alloc_far w17 (.cells #[.int .i64 sv, .slice au nu pu, .string tu] 26)))
  replace HXy := Lib.hid (HXy.out.far (alloc_far w17 (.cells #[.int .i64 sv, .slice au nu pu, .string tu] 26)))
  replace HXp := Lib.hid (HXp.out.far (alloc_far w17 (.cells #[.int .i64 sv, .slice au nu pu, .string tu] 26)))
  replace HXq := Lib.hid (HXq.out.far (alloc_far w17 (.cells #[.int .i64 sv, .slice au nu pu, .string tu] 26)))
  have HXu := Lib.hid (BX.new Lu.out)
  replace HB := Lib.hid (HB.out.trans ((alloc_far w17 (.cells #[.int .i64 sv, .slice au nu pu, .string tu] 26)).mono HB.out.size))
  clear Lu
  generalize w17.alloc (.cells #[.int .i64 sv, .slice au nu pu, .string tu] 26) = w18 at *
  generalize w17.heap.size = Su at *
  refine (scaleTL (d := 26) HXa.out.l HS.out dk (by decide) (HE.out.far HB.out)).mono ?_
  rintro e w19 ⟨cv, v, rfl, hl, hf, hb⟩
  obtain ⟨av, nv, pv, tv, rfl, hl⟩ := hl.open
  replace HXa := Lib.hid (HXa.out.far hb)
  replace HXb := Lib.hid (HXb.out.far hb)
  replace HXc := Lib.hid (HXc.out.far hb)
  replace HXx := Lib.hid (HXx.out.far hb)
  replace HXy := Lib.hid (HXy.out.far hb)
  replace HXp := Lib.hid (HXp.out.far hb)
  replace HXq := Lib.hid (HXq.out.far hb)
  replace HXu := Lib.hid (HXu.out.far hb)
  replace HB := Lib.hid (HB.out.trans (hb.mono HB.out.size))
  have Lv := Lib.hid hl
  have Fv := Lib.hid hf
  clear hl hf hb
  have zb0 := heap_cell HXb.out.h 0
  have zb1 := heap_cell HXb.out.h 1
  have zb2 := heap_cell HXb.out.h 2
  have lb := HXb.out.lt
  go_wp2_with fail
  clear zb0 zb1 zb2 lb
  replace HXa := Lib.hid (HXa.out.far (alloc_far w19 (.cells #[.int .i64 sv, .slice av nv pv, .string tv] 26)))
  replace HXb := Lib.hid (HXb.out.far (alloc_far w19 (.cells #[.int .i64 sv, .slice av nv pv, .string tv] 26)))
  replace HXc := Lib.hid (HXc.out.far (alloc_far w19 (.cells #[.int .i64 sv, .slice av nv pv, .string tv] 26)))
  replace HXx := Lib.hid (HXx.out.far (alloc_far w19 (.cells #[.int .i64 sv, .slice av nv pv, .string tv] 26)))
  replace HXy := Lib.hid (HXy.out.far (alloc_far w19 (.cells #[.int .i64 sv, .slice av nv pv, .string tv] 26)))
  replace HXp := Lib.hid (HXp.out.far (alloc_far w19 (.cells #[.int .i64 sv, .slice av nv pv, .string tv] 26)))
  replace HXq := Lib.hid (HXq.out.far (alloc_far w19 (.cells #[.int .i64 sv, .slice av nv pv, .string tv] 26)))
  replace HXu := Lib.hid (HXu.out.far (alloc_far w19 (.cells #[.int .i64 sv, .slice av nv pv, .string tv] 26)))
  have HXv := Lib.hid (BX.new Lv.out)
  replace HB := Lib.hid (HB.out.trans ((alloc_far w19 (.cells #[.int .i64 sv, .slice av nv pv, .string tv] 26)).mono HB.out.size))
  clear Lv
  generalize w19.alloc (.cells #[.int .i64 sv, .slice av nv pv, .string tv] 26) = w20 at *
  generalize w19.heap.size = Sv at *
  refine (scaleTL (d := 26) HXb.out.l HS.out dk (by decide) (HE.out.far HB.out)).mono ?_
  rintro e w21 ⟨cj, v, rfl, hl, hf, hb⟩
  obtain ⟨aj, nj, pj, tj, rfl, hl⟩ := hl.open
  replace HXa := Lib.hid (HXa.out.far hb)
  replace HXb := Lib.hid (HXb.out.far hb)
  replace HXc := Lib.hid (HXc.out.far hb)
  replace HXx := Lib.hid (HXx.out.far hb)
  replace HXy := Lib.hid (HXy.out.far hb)
  replace HXp := Lib.hid (HXp.out.far hb)
  replace HXq := Lib.hid (HXq.out.far hb)
  replace HXu := Lib.hid (HXu.out.far hb)
  replace HXv := Lib.hid (HXv.out.far hb)
  replace HB := Lib.hid (HB.out.trans (hb.mono HB.out.size))
  have Lj := Lib.hid hl
  have Fj := Lib.hid hf
  clear hl hf hb
  have zv0 := heap_cell HXv.out.h 0
  have zv1 := heap_cell HXv.out.h 1
  have zv2 := heap_cell HXv.out.h 2
  have lv := HXv.out.lt
  go_wp2_with fail
  clear zv0 zv1 zv2 lv
  replace HXa := Lib.hid (HXa.out.far (alloc_far w21 (.cells #[.int .i64 sv, .slice aj nj pj, .string tj] 26)))
  replace HXb := Lib.hid (HXb.out.far (alloc_far w21 (.cells #[.int .i64 sv, .slice aj nj pj, .string tj] 26)))
  replace HXc := Lib.hid (HXc.out.far (alloc_far w21 (.cells #[.int .i64 sv, .slice aj nj pj, .string tj] 26)))
  replace HXx := Lib.hid (HXx.out.far (alloc_far w21 (.cells #[.int .i64 sv, .slice aj nj pj, .string tj] 26)))
  replace HXy := Lib.hid (HXy.out.far (alloc_far w21 (.cells #[.int .i64 sv, .slice aj nj pj, .string tj] 26)))
  replace HXp := Lib.hid (HXp.out.far (alloc_far w21 (.cells #[.int .i64 sv, .slice aj nj pj, .string tj] 26)))
  replace HXq := Lib.hid (HXq.out.far (alloc_far w21 (.cells #[.int .i64 sv, .slice aj nj pj, .string tj] 26)))
  replace HXu := Lib.hid (HXu.out.far (alloc_far w21 (.cells #[.int .i64 sv, .slice aj nj pj, .string tj] 26)))
  replace HXv := Lib.hid (HXv.out.far (alloc_far w21 (.cells #[.int .i64 sv, .slice aj nj pj, .string tj] 26)))
  have HXj := Lib.hid (BX.new Lj.out)
  replace HB := Lib.hid (HB.out.trans ((alloc_far w21 (.cells #[.int .i64 sv, .slice aj nj pj, .string tj] 26)).mono HB.out.size))
  clear Lj
  generalize w21.alloc (.cells #[.int .i64 sv, .slice aj nj pj, .string tj] 26) = w22 at *
  generalize w21.heap.size = Sj at *
  refine (addL (d := (3 * 26 + 1)) HXv.out.l HXj.out.l HS.out (by decide) (by decide) (HE.out.far HB.out)).mono ?_
  rintro e w23 ⟨cz, v, rfl, hl, hf, hb⟩
  obtain ⟨az, nz, pz, tz, rfl, hl⟩ := hl.open
  replace HXa := Lib.hid (HXa.out.far hb)
  replace HXb := Lib.hid (HXb.out.far hb)
  replace HXc := Lib.hid (HXc.out.far hb)
  replace HXx := Lib.hid (HXx.out.far hb)
  replace HXy := Lib.hid (HXy.out.far hb)
  replace HXp := Lib.hid (HXp.out.far hb)
  replace HXq := Lib.hid (HXq.out.far hb)
  replace HXu := Lib.hid (HXu.out.far hb)
  replace HXv := Lib.hid (HXv.out.far hb)
  replace HXj := Lib.hid (HXj.out.far hb)
  replace HB := Lib.hid (HB.out.trans (hb.mono HB.out.size))
  have Lz := Lib.hid hl
  have Fz := Lib.hid hf
  clear hl hf hb
  have za0 := heap_cell HXa.out.h 0
  have za1 := heap_cell HXa.out.h 1
  have za2 := heap_cell HXa.out.h 2
  have la := HXa.out.lt
  go_wp2_with fail
  clear za0 za1 za2 la
  replace HXa := Lib.hid (HXa.out.far (alloc_far w23 (.cells #[.int .i64 sv, .slice az nz pz, .string tz] 26)))
  replace HXb := Lib.hid (HXb.out.far (alloc_far w23 (.cells #[.int .i64 sv, .slice az nz pz, .string tz] 26)))
  replace HXc := Lib.hid (HXc.out.far (alloc_far w23 (.cells #[.int .i64 sv, .slice az nz pz, .string tz] 26)))
  replace HXx := Lib.hid (HXx.out.far (alloc_far w23 (.cells #[.int .i64 sv, .slice az nz pz, .string tz] 26)))
  replace HXy := Lib.hid (HXy.out.far (alloc_far w23 (.cells #[.int .i64 sv, .slice az nz pz, .string tz] 26)))
  replace HXp := Lib.hid (HXp.out.far (alloc_far w23 (.cells #[.int .i64 sv, .slice az nz pz, .string tz] 26)))
  replace HXq := Lib.hid (HXq.out.far (alloc_far w23 (.cells #[.int .i64 sv, .slice az nz pz, .string tz] 26)))
  replace HXu := Lib.hid (HXu.out.far (alloc_far w23 (.cells #[.int .i64 sv, .slice az nz pz, .string tz] 26)))
  replace HXv := Lib.hid (HXv.out.far (alloc_far w23 (.cells #[.int .i64 sv, .slice az nz pz, .string tz] 26)))
  replace HXj := Lib.hid (HXj.out.far (alloc_far w23 (.cells #[.int .i64 sv, .slice az nz pz, .string tz] 26)))
  have HXz := Lib.hid (BX.new Lz.out)
  replace HB := Lib.hid (HB.out.trans ((alloc_far w23 (.cells #[.int .i64 sv, .slice az nz pz, .string tz] 26)).mono HB.out.size))
  clear Lz
  generalize w23.alloc (.cells #[.int .i64 sv, .slice az nz pz, .string tz] 26) = w24 at *
  generalize w23.heap.size = Sz at *
  have hm := scaleTL (d := 26) (k := -1) HXa.out.l HS.out DS_m1 (by decide) (HE.out.far HB.out)
  rw [tx_m1] at hm
  refine (hm).mono ?_
  rintro e w25 ⟨cm, v, rfl, hl, hf, hb⟩
  obtain ⟨am, nm, pm, tm, rfl, hl⟩ := hl.open
  replace HXa := Lib.hid (HXa.out.far hb)
  replace HXb := Lib.hid (HXb.out.far hb)
  replace HXc := Lib.hid (HXc.out.far hb)
  replace HXx := Lib.hid (HXx.out.far hb)
  replace HXy := Lib.hid (HXy.out.far hb)
  replace HXp := Lib.hid (HXp.out.far hb)
  replace HXq := Lib.hid (HXq.out.far hb)
  replace HXu := Lib.hid (HXu.out.far hb)
  replace HXv := Lib.hid (HXv.out.far hb)
  replace HXj := Lib.hid (HXj.out.far hb)
  replace HXz := Lib.hid (HXz.out.far hb)
  replace HB := Lib.hid (HB.out.trans (hb.mono HB.out.size))
  have Lm := Lib.hid hl
  have Fm := Lib.hid hf
  clear hl hf hb hm
  have za0 := heap_cell HXa.out.h 0
  have za1 := heap_cell HXa.out.h 1
  have za2 := heap_cell HXa.out.h 2
  have la := HXa.out.lt
  go_wp2_with fail
  clear za0 za1 za2 la
  replace HXa := Lib.hid (HXa.out.far (alloc_far w25 (.cells #[.int .i64 sv, .slice am nm pm, .string tm] 26)))
  replace HXb := Lib.hid (HXb.out.far (alloc_far w25 (.cells #[.int .i64 sv, .slice am nm pm, .string tm] 26)))
  replace HXc := Lib.hid (HXc.out.far (alloc_far w25 (.cells #[.int .i64 sv, .slice am nm pm, .string tm] 26)))
  replace HXx := Lib.hid (HXx.out.far (alloc_far w25 (.cells #[.int .i64 sv, .slice am nm pm, .string tm] 26)))
  replace HXy := Lib.hid (HXy.out.far (alloc_far w25 (.cells #[.int .i64 sv, .slice am nm pm, .string tm] 26)))
  replace HXp := Lib.hid (HXp.out.far (alloc_far w25 (.cells #[.int .i64 sv, .slice am nm pm, .string tm] 26)))
  replace HXq := Lib.hid (HXq.out.far (alloc_far w25 (.cells #[.int .i64 sv, .slice am nm pm, .string tm] 26)))
  replace HXu := Lib.hid (HXu.out.far (alloc_far w25 (.cells #[.int .i64 sv, .slice am nm pm, .string tm] 26)))
  replace HXv := Lib.hid (HXv.out.far (alloc_far w25 (.cells #[.int .i64 sv, .slice am nm pm, .string tm] 26)))
  replace HXj := Lib.hid (HXj.out.far (alloc_far w25 (.cells #[.int .i64 sv, .slice am nm pm, .string tm] 26)))
  replace HXz := Lib.hid (HXz.out.far (alloc_far w25 (.cells #[.int .i64 sv, .slice am nm pm, .string tm] 26)))
  have HXm := Lib.hid (BX.new Lm.out)
  replace HB := Lib.hid (HB.out.trans ((alloc_far w25 (.cells #[.int .i64 sv, .slice am nm pm, .string tm] 26)).mono HB.out.size))
  clear Lm
  generalize w25.alloc (.cells #[.int .i64 sv, .slice am nm pm, .string tm] 26) = w26 at *
  generalize w25.heap.size = Sm at *
  refine (addL (d := (3 * 26 + 1)) (HXa.out.l.mono (by decide)) HXm.out.l HS.out (by decide) (by decide) (HE.out.far HB.out)).mono ?_
  rintro e w27 ⟨ch, v, rfl, hl, hf, hb⟩
  obtain ⟨ah, nh, ph, th, rfl, hl⟩ := hl.open
  replace HXa := Lib.hid (HXa.out.far hb)
  replace HXb := Lib.hid (HXb.out.far hb)
  replace HXc := Lib.hid (HXc.out.far hb)
  replace HXx := Lib.hid (HXx.out.far hb)
  replace HXy := Lib.hid (HXy.out.far hb)
  replace HXp := Lib.hid (HXp.out.far hb)
  replace HXq := Lib.hid (HXq.out.far hb)
  replace HXu := Lib.hid (HXu.out.far hb)
  replace HXv := Lib.hid (HXv.out.far hb)
  replace HXj := Lib.hid (HXj.out.far hb)
  replace HXz := Lib.hid (HXz.out.far hb)
  replace HXm := Lib.hid (HXm.out.far hb)
  replace HB := Lib.hid (HB.out.trans (hb.mono HB.out.size))
  have Lh := Lib.hid hl
  have Fh := Lib.hid hf
  clear hl hf hb
  have zx0 := heap_cell HXx.out.h 0
  have zx1 := heap_cell HXx.out.h 1
  have zx2 := heap_cell HXx.out.h 2
  have lx := HXx.out.lt
  have zy0 := heap_cell HXy.out.h 0
  have zy1 := heap_cell HXy.out.h 1
  have zy2 := heap_cell HXy.out.h 2
  have ly := HXy.out.lt
  go_wp2_with fail
  clear zx0 zx1 zx2 zy0 zy1 zy2 lx ly
  replace HXa := Lib.hid (HXa.out.far (alloc_far w27 (.cells #[.int .i64 sv, .slice ah nh ph, .string th] 26)))
  replace HXb := Lib.hid (HXb.out.far (alloc_far w27 (.cells #[.int .i64 sv, .slice ah nh ph, .string th] 26)))
  replace HXc := Lib.hid (HXc.out.far (alloc_far w27 (.cells #[.int .i64 sv, .slice ah nh ph, .string th] 26)))
  replace HXx := Lib.hid (HXx.out.far (alloc_far w27 (.cells #[.int .i64 sv, .slice ah nh ph, .string th] 26)))
  replace HXy := Lib.hid (HXy.out.far (alloc_far w27 (.cells #[.int .i64 sv, .slice ah nh ph, .string th] 26)))
  replace HXp := Lib.hid (HXp.out.far (alloc_far w27 (.cells #[.int .i64 sv, .slice ah nh ph, .string th] 26)))
  replace HXq := Lib.hid (HXq.out.far (alloc_far w27 (.cells #[.int .i64 sv, .slice ah nh ph, .string th] 26)))
  replace HXu := Lib.hid (HXu.out.far (alloc_far w27 (.cells #[.int .i64 sv, .slice ah nh ph, .string th] 26)))
  replace HXv := Lib.hid (HXv.out.far (alloc_far w27 (.cells #[.int .i64 sv, .slice ah nh ph, .string th] 26)))
  replace HXj := Lib.hid (HXj.out.far (alloc_far w27 (.cells #[.int .i64 sv, .slice ah nh ph, .string th] 26)))
  replace HXz := Lib.hid (HXz.out.far (alloc_far w27 (.cells #[.int .i64 sv, .slice ah nh ph, .string th] 26)))
  replace HXm := Lib.hid (HXm.out.far (alloc_far w27 (.cells #[.int .i64 sv, .slice ah nh ph, .string th] 26)))
  have HXh := Lib.hid (BX.new Lh.out)
  replace HB := Lib.hid (HB.out.trans ((alloc_far w27 (.cells #[.int .i64 sv, .slice ah nh ph, .string th] 26)).mono HB.out.size))
  clear Lh
  generalize w27.alloc (.cells #[.int .i64 sv, .slice ah nh ph, .string th] 26) = w28 at *
  generalize w27.heap.size = Sh at *
  obtain ⟨h0, h1⟩ := HXh.out.zero (by grind) (fun n => by rw [Fh.out n, Fm.out n]; grind)
  subst h0 h1
  refine (HXx.out.same HXy.out (Rat.add_comm _ _) (fun n => by rw [Fx.out n, Fy.out n, Rat.add_comm])).mono ?_
  rintro e w29 ⟨rfl, hb⟩
  replace HXa := Lib.hid (HXa.out.far hb)
  replace HXb := Lib.hid (HXb.out.far hb)
  replace HXc := Lib.hid (HXc.out.far hb)
  replace HXx := Lib.hid (HXx.out.far hb)
  replace HXy := Lib.hid (HXy.out.far hb)
  replace HXp := Lib.hid (HXp.out.far hb)
  replace HXq := Lib.hid (HXq.out.far hb)
  replace HXu := Lib.hid (HXu.out.far hb)
  replace HXv := Lib.hid (HXv.out.far hb)
  replace HXj := Lib.hid (HXj.out.far hb)
  replace HXz := Lib.hid (HXz.out.far hb)
  replace HXm := Lib.hid (HXm.out.far hb)
  replace HXh := Lib.hid (HXh.out.far hb)
  replace HB := Lib.hid (HB.out.trans (hb.mono HB.out.size))
  clear hb
  have zp0 := heap_cell HXp.out.h 0
  have zp1 := heap_cell HXp.out.h 1
  have zp2 := heap_cell HXp.out.h 2
  have lp := HXp.out.lt
  have zq0 := heap_cell HXq.out.h 0
  have zq1 := heap_cell HXq.out.h 1
  have zq2 := heap_cell HXq.out.h 2
  have lq := HXq.out.lt
  go_wp2_with fail
  clear zp0 zp1 zp2 zq0 zq1 zq2 lp lq
  refine (HXp.out.same HXq.out (Rat.add_assoc _ _ _) (fun n => by rw [Fp.out n, Fr.out n, Fx.out n, Fq.out n, Rat.add_assoc])).mono ?_
  rintro e w30 ⟨rfl, hb⟩
  replace HXa := Lib.hid (HXa.out.far hb)
  replace HXb := Lib.hid (HXb.out.far hb)
  replace HXc := Lib.hid (HXc.out.far hb)
  replace HXx := Lib.hid (HXx.out.far hb)
  replace HXy := Lib.hid (HXy.out.far hb)
  replace HXp := Lib.hid (HXp.out.far hb)
  replace HXq := Lib.hid (HXq.out.far hb)
  replace HXu := Lib.hid (HXu.out.far hb)
  replace HXv := Lib.hid (HXv.out.far hb)
  replace HXj := Lib.hid (HXj.out.far hb)
  replace HXz := Lib.hid (HXz.out.far hb)
  replace HXm := Lib.hid (HXm.out.far hb)
  replace HXh := Lib.hid (HXh.out.far hb)
  replace HB := Lib.hid (HB.out.trans (hb.mono HB.out.size))
  clear hb
  have zu0 := heap_cell HXu.out.h 0
  have zu1 := heap_cell HXu.out.h 1
  have zu2 := heap_cell HXu.out.h 2
  have lu := HXu.out.lt
  have zz0 := heap_cell HXz.out.h 0
  have zz1 := heap_cell HXz.out.h 1
  have zz2 := heap_cell HXz.out.h 2
  have lz := HXz.out.lt
  go_wp2_with fail
  clear zu0 zu1 zu2 zz0 zz1 zz2 lu lz
  refine (HXu.out.same HXz.out (Rat.mul_add _ _ _) (fun n => by rw [Fu.out n, Fz.out n, Fv.out n, Fj.out n, Fx.out n, Rat.mul_add])).mono ?_
  rintro e w31 ⟨rfl, hb⟩
  replace HXa := Lib.hid (HXa.out.far hb)
  replace HXb := Lib.hid (HXb.out.far hb)
  replace HXc := Lib.hid (HXc.out.far hb)
  replace HXx := Lib.hid (HXx.out.far hb)
  replace HXy := Lib.hid (HXy.out.far hb)
  replace HXp := Lib.hid (HXp.out.far hb)
  replace HXq := Lib.hid (HXq.out.far hb)
  replace HXu := Lib.hid (HXu.out.far hb)
  replace HXv := Lib.hid (HXv.out.far hb)
  replace HXj := Lib.hid (HXj.out.far hb)
  replace HXz := Lib.hid (HXz.out.far hb)
  replace HXm := Lib.hid (HXm.out.far hb)
  replace HXh := Lib.hid (HXh.out.far hb)
  replace HB := Lib.hid (HB.out.trans (hb.mono HB.out.size))
  clear hb
  have zh0 := heap_cell HXh.out.h 0
  have zh1 := heap_cell HXh.out.h 1
  have zh2 := heap_cell HXh.out.h 2
  have lh := HXh.out.lt
  go_wp2_with fail
  clear zh0 zh1 zh2 lh
  refine (awakeL _ (HE.out.far HB.out)).mono ?_
  rintro e w32 ⟨rfl, hb⟩
  replace HB := Lib.hid (HB.out.trans (hb.mono HB.out.size))
  clear hb
  go_wp2
  go_ret
  exact ⟨rfl, HB.out⟩
end
end Go.Proofs.YtgfoljpjdmeooaaGreatDoor

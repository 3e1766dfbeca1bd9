/- LinearValue's walk. -/
import Derived.Test.YteoklapcifonaaaGreatDoorWGL
import Derived.Test.YteoklapcifonaaaGreatDoorWGH
import Derived.Test.YteoklapcifonaaaGreatDoorWLU
import Derived.Test.YteoklapcifonaaaGreatDoorWTL
import Derived.Test.YteoklapcifonaaaGreatDoorWMJ
import Derived.Laws.OwnMore
namespace Go.Proofs.YteoklapcifonaaaGreatDoor
open Go.RowKit Nmx

theorem BX.grownC {w w' : World} {S : Nat} {s : Int} {ao : Option Addr} {n cap : Nat} {tx : ByteArray} {d : Nat} {c : Rat} {cs : List (List UInt8 × Rat)} {C : Nat} {bo : Option Addr} {m cp : Nat} (h : BX w S s ao n cap tx d c cs) (hc : Ch C bo m cp w) (hS : S < C) (hg : w.grownBy w' (some C)) : BX w' S s ao n cap tx d c cs :=
  ⟨(hg.block _ (lt_of_heap h.h) (fun e => by have := Option.some.inj e; omega)).trans h.h, h.l.grown hc hg⟩
theorem EB2.grownC {w w' : World} {g cap : Nat} {s : Int} {es : List (List UInt8 × Rat)} {C : Nat} {bo : Option Addr} {m cp : Nat} (h : EB2 w g cap s es) (hc : Ch C bo m cp w) (hg : w.grownBy w' (some C)) : EB2 w' g cap s es := by
  obtain ⟨cur, h1, h2, h3⟩ := h.blk;obtain ⟨i, -, hC⟩ := hc.blk;refine ⟨⟨cur, (hg.block g (lt_of_heap h1) fun e => ?_).trans h1, h2, h3⟩, h.len, h.c4, h.most, h.ok⟩;have e := Option.some.inj e;rw [e, hC] at h1;cases h1
theorem EB2.far {w w' : World} {g cap : Nat} {s : Int} {es : List (List UInt8 × Rat)} (h : EB2 w g cap s es) (hb : Below w.heap.size w w') : EB2 w' g cap s es :=
  let ⟨cur, h1, h2, h3⟩ := h.blk; ⟨⟨cur, (hb.block _ (lt_of_heap h1)).trans h1, h2, h3⟩, h.len, h.c4, h.most, h.ok⟩
theorem flatB_one (s : Int) (es : List (List UInt8 × Rat)) : ∀ u ∈ flatB s es, u.oneCell' = true := by
  induction es with
  | nil => exact fun u h => (List.not_mem_nil h).elim
  | cons x es ih =>
    intro u hu;unfold flatB at hu;simp only [List.mem_cons] at hu;rcases hu with rfl | rfl | rfl | rfl | rfl | rfl | hu
    · rfl
    · rfl
    · rfl
    · rfl
    · rfl
    · rfl
    · exact ih u hu
theorem EG.mono {w : World} {v : Value} {D D' : Nat} {es : List (List UInt8 × Int × Rat)} (h : EG w v D es) (hD : D ≤ D') : EG w v D' es :=
  let ⟨ao, g, off, cap, h1, h2, h3⟩ := h; ⟨ao, g, off, cap, h1, h2, fun x hx => (h3 x hx).imp id fun ⟨a, b, c⟩ => ⟨a, b.mono hD, c⟩⟩
theorem evT_ok {x : Rat} : evT (0, x) = TX x := if_pos rfl
/-- Eval where every name has a number of the sort -/
theorem evalV {d D : Nat} {w : World} {s : Int} {a1 : Option Addr} {n1 c1 : Nat} {t1 : ByteArray} {p : Rat} {cs : List (List UInt8 × Rat)} {ve : Value} {E : List (List UInt8 × Int × Rat)} {f : List UInt8 → Rat} (h : LV w (.agg #[.int .i64 s, .slice a1 n1 c1, .string t1]) s d p cs) (he : EG w ve D E) (hf : ∀ n ∈ nm4, lkE E n = some (s, f n)) (hs : s = 2 ∨ s = 3) (hd : d ≤ 100) (hD : D ≤ 300) (hE : Env w) :
    Calls Tryz.prog 40 #[.agg #[.int .i64 s, .slice a1 n1 c1, .string t1], ve] w fun e w' => e = .returned (.tuple #[.string (TX (evS p cs f)), .int .i64 0]) ∧ Below w.heap.size w w' := by
  have h1 := linEvalG h he hs hd hD hE;rw [evG_ok (g := f) cs p (fun x hx => hf _ (h.good.1.nm x hx)), evT_ok] at h1;exact h1
theorem evS_dsD {d D : Nat} {f : List UInt8 → Rat} (hf : ∀ n, DS D (f n)) : ∀ (cs : List (List UInt8 × Rat)) (e : Nat) (p : Rat), DS e p → (∀ x ∈ cs, DS d x.2) → DS (e + cs.length * (d + D + 1)) (evS p cs f)
  | [], e, p, hp, _ => by rw [List.length_nil, Nat.zero_mul]; exact hp
  | x :: cs, e, p, hp, hc => by
    have h1 := (hp.add ((hc x (by simp)).mul (hf x.1)))
    have h2 := evS_dsD hf cs _ _ h1 fun y hy => hc y (by simp [hy])
    rw [show e + (d + D) + 1 + cs.length * (d + D + 1) = e + (x :: cs).length * (d + D + 1) by rw [List.length_cons, Nat.add_mul]; omega] at h2;exact h2
/-- a row of bindings: one of any sort, then the environment -/
theorem chg_eg {w : World} {base : Nat} {v : Value} {s t : Int} {y : Rat} {es : List (List UInt8 × Rat)} (h : w.ownsRow base 65 6 v 5 ([.string ⟨#[117]⟩, .int .i64 t, .bool false, .string (TX y), .slice none 0 0, .slice none 0 0] ++ flatB s es)) :
    ∃ g cap cur, v = .slice (some ⟨g, 0, none⟩) 5 cap ∧ base ≤ g ∧ 5 ≤ cap ∧ cap ≤ 9223372036854775807 ∧ w.heap[g]? = some (.cells cur 65 (0, 0)) ∧ cur.size = cap * 6 ∧ cur.toList.take 30 = [.string ⟨#[117]⟩, .int .i64 t, .bool false, .string (TX y), .slice none 0 0, .slice none 0 0] ++ flatB s es := by
  rcases h.2 with ⟨-, hn⟩ | ⟨g, cap, cur, hv, hb, hbl, hn, hc, hs, htake⟩
  · cases hn
  · exact ⟨g, cap, cur, hv, hb, hn, hc, hbl, hs, htake⟩
theorem chg_set {w' : World} {g cap : Nat} {cur : Array Value} {s t : Int} {y : Rat} {es : List (List UInt8 × Rat)} (hs : s = 2 ∨ s = 3) (h5 : 5 ≤ cap) (hm : cap ≤ 9223372036854775807) (hsz : cur.size = cap * 6) (ht : cur.toList.take 30 = [.string ⟨#[117]⟩, .int .i64 t, .bool false, .string (TX y), .slice none 0 0, .slice none 0 0] ++ flatB s es) (h4 : es.length = 4) (hq : ∀ x ∈ es, NumOk s x.2) (hy : DS 300 y) (hyi : s = 2 → y.den = 1)
    (hw : w'.heap[g]? = some (.cells (cur.setIfInBounds 1 (.int .i64 s)) 65 (0, 0))) : EG w' (.slice (some ⟨g, 0, none⟩) 5 cap) 300 (([117], s, y) :: toG s es) := by
  have hl : (([117], s, y) :: toG s es).length = 5 := by rw [List.length_cons, show (toG s es).length = es.length from List.length_map _, h4]
  refine ⟨some ⟨g, 0, none⟩, g, 0, cap, by rw [hl], ⟨by rw [hl]; exact h5, hm, fun _ => rfl, fun i hi c v hv => ?_⟩, fun x hx => ?_⟩
  · rw [heap_cell hw]
    have hc6 : c < 6 := by
      have := (Array.getElem?_eq_some_iff.1 hv).1
      simpa using this
    cases i with
    | zero =>
      have hv' : (#[.string ⟨#[117]⟩, .int .i64 s, .bool false, .string (txE (s, y)), .slice none 0 0, .slice none 0 0] : Array Value)[c]? = some v := hv;rw [txE_num hs] at hv';rw [show 0 + 0 * 6 + c = c by omega]
      have hg : ∀ u, ([.string ⟨#[117]⟩, .int .i64 t, .bool false, .string (TX y), .slice none 0 0, .slice none 0 0] : List Value)[c]? = some u → cur[c]? = some u := fun u hu => by
        have := take_get ht (i := c) (v := u) (by rw [List.getElem?_append_left (by simpa using hc6)]; exact hu)
        simpa using this
      match c, hc6 with
      | 1, _ =>
        have hv2 : some (Value.int .i64 s) = some v := hv';rw [← hv2];simp only [Array.getElem?_setIfInBounds];rw [if_pos trivial, if_pos (by omega)]
      | 0, _ => rw [Array.getElem?_setIfInBounds, if_neg (by omega)]; exact hg v hv'
      | 2, _ => rw [Array.getElem?_setIfInBounds, if_neg (by omega)]; exact hg v hv'
      | 3, _ => rw [Array.getElem?_setIfInBounds, if_neg (by omega)]; exact hg v hv'
      | 4, _ => rw [Array.getElem?_setIfInBounds, if_neg (by omega)]; exact hg v hv'
      | 5, _ => rw [Array.getElem?_setIfInBounds, if_neg (by omega)]; exact hg v hv'
    | succ i =>
      have hi2 : i < es.length := by rw [hl] at hi; omega
      have e : (([117], s, y) :: toG s es)[i + 1] = (es[i].1, s, es[i].2) := by rw [List.getElem_cons_succ]; exact List.getElem_map _
      rw [e] at hv
      dsimp only at hv
      rw [txE_num hs] at hv;have h0 := flatB_get s es i hi2 c v hv;have h1 := take_get ht (i := i * 6 + c + 6) (v := v) (by rw [List.getElem?_append_right (by simp)]; simpa using h0);rw [Array.getElem?_setIfInBounds, if_neg (by omega), show 0 + (i + 1) * 6 + c = i * 6 + c + 6 by omega]
      simpa using h1
  · rcases List.mem_cons.1 hx with rfl | hx
    · exact .inr ⟨hs, hy, hyi⟩
    · obtain ⟨z, hz, rfl⟩ := List.mem_map.1 hx;exact .inr ⟨hs, (hq z hz).1.mono (by decide), (hq z hz).2⟩
theorem lk_chg {s : Int} {y : Rat} {es : List (List UInt8 × Rat)} (hn : es.map (·.1) = nm4) : ∀ n ∈ nm4, lkE (([117], s, y) :: toG s es) n = some (s, if n = [117] then y else cof es n) := by
  intro n h;show (if [117] = n then some (s, y) else lkE (toG s es) n) = _
  by_cases e : n = [117]
  · rw [if_pos e, if_pos e.symm]
  · rw [if_neg e, if_neg (fun h => e h.symm)];exact lkE_toG (by rw [hn]; exact h)
section
set_option maxRecDepth 100000
set_option maxHeartbeats 8000000
theorem value_any (al : Option Addr) (ll cl : Nat) (am : Option Addr) (lm cm : Nat) (an : Option Addr) (ln cn : Nat) (s : Int) (w : World) (hE : Env w) (hl : ArgI w al ll cl) (hm : ArgI w am lm cm) (hn : ArgI w an ln cn) :
    Calls Tryz.prog 9 #[.slice al ll cl, .slice am lm cm, .slice an ln cn, .int .i64 s] w fun e w' => e = .returned (.bool true) ∧ Below w.heap.size w w' := by
  have HE := Lib.hid hE;have HAl := Lib.hid hl;have HAm := Lib.hid hm;have HAn := Lib.hid hn;obtain ⟨so, hso⟩ : ∃ so, modF s 2 = so := ⟨_, rfl⟩
  have hs0 : 0 ≤ so := by rw [← hso]; unfold modF; omega
  have hs1 : so ≤ 1 := by rw [← hso]; unfold modF; omega
  have hmod := mod_q s 2 w (by decide) (by decide);rw [hso] at hmod;have HS : Hid (2 + so = 2 ∨ 2 + so = 3) := Lib.hid (by omega);obtain ⟨i0, hi, hz0, hz1, hz2⟩ := info_parts infoBind;have HI := Lib.hid hi;have HZ0 := Lib.hid hz0;have HZ1 := Lib.hid hz1;have HZ2 := Lib.hid hz2;clear hE hl hm hn hso hi hz0 hz1 hz2
  go_enter Tryz.func9, Tryz.ntmps9
  go_wp2_with fail
  refine hmod.mono ?_;rintro e w0 ⟨rfl, h0⟩;obtain rfl := h0.symm;clear hmod
  go_wp2_with fail
  refine (new_any al ll cl _ HAl.out).mono ?_;rintro e w1 ⟨rfl, rfl⟩
  go_wp2_with fail
  generalize 2 + so = sv at *;clear hs0 hs1;refine (linear_any _ _ _ _ sv _ (ch_newL HAl.out)).mono ?_;intro e w1 hp;obtain ⟨ca, qa, aa, na, pa, ta, rfl, la, hg⟩ := linPost_open hp;have HB := Lib.hid (new_far hg);have LA := Lib.hid la;clear hp hg la HAl
  go_wp2_with fail
  refine (new_any am lm cm _ (HAm.out.far HB.out)).mono ?_;rintro e w2 ⟨rfl, rfl⟩
  go_wp2_with fail
  refine (linear_any _ _ _ _ sv _ (ch_newL (HAm.out.far HB.out))).mono ?_;intro e w2 hp;obtain ⟨cb, qb, ab, nb, pb, tb, rfl, lb, hg⟩ := linPost_open hp;replace LA := Lib.hid (LA.out.far (new_far hg));replace HB := Lib.hid (HB.out.trans ((new_far hg).mono HB.out.size));have LB := Lib.hid lb;clear hp hg lb HAm
  go_wp2_with fail
  have hal1 := alloc_far w2 (.cells #[.int .i64 sv, .slice aa na pa, .string ta] 26);have hal2 := alloc_far (w2.alloc (.cells #[.int .i64 sv, .slice aa na pa, .string ta] 26)) (.cells #[.int .i64 sv, .slice ab nb pb, .string tb] 26);have HXa := Lib.hid ((BX.new (LA.out)).far hal2);have hxb := BX.new (LB.out.far hal1);rw [show (w2.alloc (.cells #[.int .i64 sv, .slice aa na pa, .string ta] 26)).heap.size = w2.heap.size + 1 by simp] at hxb;have HXb := Lib.hid hxb;replace HB := Lib.hid ((HB.out.trans (hal1.mono HB.out.size)).trans (hal2.mono (HB.out.trans (hal1.mono HB.out.size)).size));clear hal1 hal2 hxb LA LB;generalize (w2.alloc (.cells #[.int .i64 sv, .slice aa na pa, .string ta] 26)).alloc (.cells #[.int .i64 sv, .slice ab nb pb, .string tb] 26) = w3 at *;generalize w2.heap.size + 1 = Sb at *;generalize w2.heap.size = Sa at *;refine (new_any an ln cn w3 (HAn.out.far HB.out)).mono ?_;rintro e w4 ⟨rfl, rfl⟩;have HCH := Lib.hid (ch_newL (HAn.out.far HB.out));have hal := alloc_far w3 (.cells #[.slice an (min ln 400) cn, .int .i64 0] 76);have HSA : Hid (Sa < w3.heap.size) := Lib.hid HXa.out.lt;have HSB : Hid (Sb < w3.heap.size) := Lib.hid HXb.out.lt;have HWC : Hid (w.heap.size ≤ w3.heap.size) := Lib.hid HB.out.size;replace HXa := Lib.hid (HXa.out.far hal);replace HXb := Lib.hid (HXb.out.far hal);replace HB := Lib.hid (HB.out.trans (hal.mono HB.out.size));clear hal HAn;generalize w3.alloc (.cells #[.slice an (min ln 400) cn, .int .i64 0] 76) = w4 at *
  generalize w3.heap.size = C at *
  go_wp2_with fail
  refine (linearEnv_row C an (min ln 400) cn sv _ HCH.out).mono ?_;rintro e w5 ⟨es, ve, rfl, hev, hrow, hch, hg⟩;obtain ⟨ge, ce, rfl, -, heb⟩ := eb2_of hev hrow;obtain ⟨-, -, -, -, -, heg⟩ := hev;have HNM := Lib.hid heg.nm;replace HXa := Lib.hid (HXa.out.grownC HCH.out HSA.out hg);replace HXb := Lib.hid (HXb.out.grownC HCH.out HSB.out hg);replace HB := Lib.hid (HB.out.grown hg HB.out.size (fun k e => by cases e; exact HWC.out));replace HCH := Lib.hid hch;have HEB0 := Lib.hid heb;clear hg hch heb heg hrow
  go_wp2_with fail
  refine (number_any C an (min ln 400) cn _ HCH.out).mono ?_;rintro e w6 ⟨k, dk, rfl, -, hg⟩;have HDK := Lib.hid dk;have HEB := Lib.hid (HEB0.out.grownC HCH.out hg);replace HXa := Lib.hid (HXa.out.grownC HCH.out HSA.out hg);replace HXb := Lib.hid (HXb.out.grownC HCH.out HSB.out hg);replace HB := Lib.hid (HB.out.grown hg HB.out.size (fun k e => by cases e; exact HWC.out));have HEG : Hid (EG w6 (.slice (some ⟨ge, 0, none⟩) 4 ce) 26 (toG sv es)) := Lib.hid (HEB.out.drop HS.out (k := 0) (by decide));clear hg dk HCH HWC HSA HSB HEB0;obtain ⟨x, hx⟩ : ∃ x, evS qa ca (cof es) = x := ⟨_, rfl⟩
  obtain ⟨y, hy⟩ : ∃ y, evS qb cb (cof es) = y := ⟨_, rfl⟩
  have hes : EnvG sv es := ⟨HNM.out, HEB.out.ok⟩
  have hlk : ∀ n ∈ nm4, lkE (toG sv es) n = some (sv, cof es n) := fun n h => lkE_toG (by rw [HNM.out]; exact h)
  have dx : DS 300 x := by
    rw [← hx];refine (evS_dsD (env_ds hes) ca 26 qa HXa.out.l.good.2 HXa.out.l.good.1.ds).mono ?_;have h4 := can_len HXa.out.l.good.1.can HXa.out.l.good.1.nm;have h6 : ca.length * (26 + 26 + 1) ≤ 4 * (26 + 26 + 1) := Nat.mul_le_mul_right _ h4
    omega
  have dy : DS 300 y := by
    rw [← hy];refine (evS_dsD (env_ds hes) cb 26 qb HXb.out.l.good.2 HXb.out.l.good.1.ds).mono ?_;have h4 := can_len HXb.out.l.good.1.can HXb.out.l.good.1.nm;have h6 : cb.length * (26 + 26 + 1) ≤ 4 * (26 + 26 + 1) := Nat.mul_le_mul_right _ h4
    omega
  have HX := Lib.hid hx;have HY := Lib.hid hy;have HLK := Lib.hid hlk;have HDX := Lib.hid dx;have HDY := Lib.hid dy;have HGA := Lib.hid HXa.out.l.good.1;have HGB := Lib.hid HXb.out.l.good.1;clear hx hy hes hlk dx dy;have a0 := heap_cell HXa.out.h 0;have a1 := heap_cell HXa.out.h 1;have a2 := heap_cell HXa.out.h 2;have la := HXa.out.lt
  go_wp2_with fail
  have hc := evalV (f := cof es) HXa.out.l HEG.out HLK.out HS.out (by decide) (by decide) (HE.out.far HB.out);rw [HX.out] at hc;refine hc.mono ?_;rintro e w7 ⟨rfl, hb1⟩;replace HXa := Lib.hid (HXa.out.far hb1);replace HXb := Lib.hid (HXb.out.far hb1);replace HEG := Lib.hid (HEG.out.far hb1);replace HEB := Lib.hid (HEB.out.far hb1);replace HB := Lib.hid (HB.out.trans (hb1.mono HB.out.size));clear hb1 hc a0 a1 a2 la;have b0 := heap_cell HXb.out.h 0;have b1 := heap_cell HXb.out.h 1;have b2 := heap_cell HXb.out.h 2;have lb := HXb.out.lt
  go_wp2_with fail
  have hc := evalV (f := cof es) HXb.out.l HEG.out HLK.out HS.out (by decide) (by decide) (HE.out.far HB.out);rw [HY.out] at hc;refine hc.mono ?_;rintro e w8 ⟨rfl, hb1⟩;replace HXa := Lib.hid (HXa.out.far hb1);replace HXb := Lib.hid (HXb.out.far hb1);replace HEG := Lib.hid (HEG.out.far hb1);replace HEB := Lib.hid (HEB.out.far hb1);replace HB := Lib.hid (HB.out.trans (hb1.mono HB.out.size));clear hb1 hc b0 b1 b2 lb;have a0 := heap_cell HXa.out.h 0;have a1 := heap_cell HXa.out.h 1;have a2 := heap_cell HXa.out.h 2;have b0 := heap_cell HXb.out.h 0;have b1 := heap_cell HXb.out.h 1;have b2 := heap_cell HXb.out.h 2;have la := HXa.out.lt;have lb := HXb.out.lt
  go_wp2_with fail
  have hc := addL HXa.out.l HXb.out.l HS.out (by decide) (by decide) (HE.out.far HB.out);refine hc.mono ?_;rintro e w9 ⟨rsj, v, rfl, hl, hf, hb1⟩;replace HXa := Lib.hid (HXa.out.far hb1);replace HXb := Lib.hid (HXb.out.far hb1);replace HEG := Lib.hid (HEG.out.far hb1);replace HEB := Lib.hid (HEB.out.far hb1);replace HB := Lib.hid (HB.out.trans (hb1.mono HB.out.size));obtain ⟨aj, nj, pj, tj, rfl⟩ := lvOpen hl;have Lj := Lib.hid hl;have HFj := Lib.hid hf;clear hl hf;clear hb1 hc a0 a1 a2 b0 b1 b2 la lb;have a0 := heap_cell HXa.out.h 0;have a1 := heap_cell HXa.out.h 1;have a2 := heap_cell HXa.out.h 2;have la := HXa.out.lt
  go_wp2_with fail
  have hal := alloc_far w9 (.cells #[.int .i64 sv, .slice aj nj pj, .string tj] 26);have hxj := BX.new Lj.out;replace HXa := Lib.hid (HXa.out.far hal);replace HXb := Lib.hid (HXb.out.far hal);replace HEG := Lib.hid (HEG.out.far hal);replace HEB := Lib.hid (HEB.out.far hal);replace HB := Lib.hid (HB.out.trans (hal.mono HB.out.size));have HXj := Lib.hid hxj;clear hal hxj Lj;generalize w9.alloc (.cells #[.int .i64 sv, .slice aj nj pj, .string tj] 26) = w10 at *;generalize w9.heap.size = Sj at *;have hc := scaleTL HXa.out.l HS.out HDK.out (by decide) (HE.out.far HB.out);refine hc.mono ?_;rintro e w11 ⟨rsu, v, rfl, hl, hf, hb1⟩;replace HXa := Lib.hid (HXa.out.far hb1);replace HXb := Lib.hid (HXb.out.far hb1);replace HXj := Lib.hid (HXj.out.far hb1);replace HEG := Lib.hid (HEG.out.far hb1);replace HEB := Lib.hid (HEB.out.far hb1);replace HB := Lib.hid (HB.out.trans (hb1.mono HB.out.size));obtain ⟨au, nu, pu, tu, rfl⟩ := lvOpen hl;have Lu := Lib.hid hl;have HFu := Lib.hid hf;clear hl hf;clear hb1 hc a0 a1 a2 la;have a0 := heap_cell HXa.out.h 0;have a1 := heap_cell HXa.out.h 1;have a2 := heap_cell HXa.out.h 2;have b0 := heap_cell HXb.out.h 0;have b1 := heap_cell HXb.out.h 1;have b2 := heap_cell HXb.out.h 2;have la := HXa.out.lt;have lb := HXb.out.lt
  go_wp2_with fail
  have hal := alloc_far w11 (.cells #[.int .i64 sv, .slice au nu pu, .string tu] 26);have hxu := BX.new Lu.out;replace HXa := Lib.hid (HXa.out.far hal);replace HXb := Lib.hid (HXb.out.far hal);replace HXj := Lib.hid (HXj.out.far hal);replace HEG := Lib.hid (HEG.out.far hal);replace HEB := Lib.hid (HEB.out.far hal);replace HB := Lib.hid (HB.out.trans (hal.mono HB.out.size));have HXu := Lib.hid hxu;clear hal hxu Lu;generalize w11.alloc (.cells #[.int .i64 sv, .slice au nu pu, .string tu] 26) = w12 at *;generalize w11.heap.size = Su at *;have hc := replace_any [117] HXa.out.l HXb.out.l (by decide +kernel) HS.out (by decide) (HE.out.far HB.out);refine hc.mono ?_;rintro e w13 ⟨rsr, v, rfl, hl, hf, hb1⟩;replace HXa := Lib.hid (HXa.out.far hb1);replace HXb := Lib.hid (HXb.out.far hb1);replace HXj := Lib.hid (HXj.out.far hb1);replace HXu := Lib.hid (HXu.out.far hb1);replace HEG := Lib.hid (HEG.out.far hb1);replace HEB := Lib.hid (HEB.out.far hb1);replace HB := Lib.hid (HB.out.trans (hb1.mono HB.out.size));obtain ⟨ar, nr, pr, tr, rfl⟩ := lvOpen hl;have Lr := Lib.hid hl;have HFr := Lib.hid hf;clear hl hf;clear hb1 hc a0 a1 a2 b0 b1 b2 la lb;have j0 := heap_cell HXj.out.h 0;have j1 := heap_cell HXj.out.h 1;have j2 := heap_cell HXj.out.h 2;have lj := HXj.out.lt
  go_wp2_with fail
  have hal := alloc_far w13 (.cells #[.int .i64 sv, .slice ar nr pr, .string tr] 26);have hxr := BX.new Lr.out;replace HXa := Lib.hid (HXa.out.far hal);replace HXb := Lib.hid (HXb.out.far hal);replace HXj := Lib.hid (HXj.out.far hal);replace HXu := Lib.hid (HXu.out.far hal);replace HEG := Lib.hid (HEG.out.far hal);replace HEB := Lib.hid (HEB.out.far hal);replace HB := Lib.hid (HB.out.trans (hal.mono HB.out.size));have HXr := Lib.hid hxr;clear hal hxr Lr;generalize w13.alloc (.cells #[.int .i64 sv, .slice ar nr pr, .string tr] 26) = w14 at *;generalize w13.heap.size = Sr at *;have hc := evalV (f := cof es) HXj.out.l HEG.out HLK.out HS.out (by decide) (by decide) (HE.out.far HB.out);rw [ev_sum HGA.out.can HGA.out.nm HGB.out.can HGB.out.nm HXj.out.l.good.1.can HXj.out.l.good.1.nm HFj.out, HX.out, HY.out] at hc;refine hc.mono ?_;rintro e w15 ⟨rfl, hb1⟩;replace HXa := Lib.hid (HXa.out.far hb1);replace HXb := Lib.hid (HXb.out.far hb1);replace HXj := Lib.hid (HXj.out.far hb1);replace HXu := Lib.hid (HXu.out.far hb1);replace HXr := Lib.hid (HXr.out.far hb1);replace HEG := Lib.hid (HEG.out.far hb1);replace HEB := Lib.hid (HEB.out.far hb1);replace HB := Lib.hid (HB.out.trans (hb1.mono HB.out.size));clear hb1 hc j0 j1 j2 lj;have u0 := heap_cell HXu.out.h 0;have u1 := heap_cell HXu.out.h 1;have u2 := heap_cell HXu.out.h 2;have lu := HXu.out.lt
  go_wp2_with fail
  have hc := evalV (f := cof es) HXu.out.l HEG.out HLK.out HS.out (by decide) (by decide) (HE.out.far HB.out);rw [ev_mul HGA.out.can HGA.out.nm HXu.out.l.good.1.can HXu.out.l.good.1.nm HFu.out, HX.out] at hc;refine hc.mono ?_;rintro e w16 ⟨rfl, hb1⟩;replace HXa := Lib.hid (HXa.out.far hb1);replace HXb := Lib.hid (HXb.out.far hb1);replace HXj := Lib.hid (HXj.out.far hb1);replace HXu := Lib.hid (HXu.out.far hb1);replace HXr := Lib.hid (HXr.out.far hb1);replace HEG := Lib.hid (HEG.out.far hb1);replace HEB := Lib.hid (HEB.out.far hb1);replace HB := Lib.hid (HB.out.trans (hb1.mono HB.out.size));clear hb1 hc u0 u1 u2 lu;have r0 := heap_cell HXr.out.h 0;have r1 := heap_cell HXr.out.h 1;have r2 := heap_cell HXr.out.h 2;have lr := HXr.out.lt
  go_wp2_with fail
  have hc := evalV (f := cof es) HXr.out.l HEG.out HLK.out HS.out (by decide) (by decide) (HE.out.far HB.out);rw [ev_rep HGA.out.can HGA.out.nm HGB.out.can HGB.out.nm HXr.out.l.good.1.can HXr.out.l.good.1.nm HFr.out, HY.out] at hc;refine hc.mono ?_;rintro e w17 ⟨rfl, hb1⟩;replace HXa := Lib.hid (HXa.out.far hb1);replace HXb := Lib.hid (HXb.out.far hb1);replace HXj := Lib.hid (HXj.out.far hb1);replace HXu := Lib.hid (HXu.out.far hb1);replace HXr := Lib.hid (HXr.out.far hb1);replace HEG := Lib.hid (HEG.out.far hb1);replace HEB := Lib.hid (HEB.out.far hb1);replace HB := Lib.hid (HB.out.trans (hb1.mono HB.out.size));clear hb1 hc r0 r1 r2 lr;obtain ⟨z, hz⟩ : ∃ z, evS qa ca (fun n => if n = [117] then y else cof es n) = z := ⟨_, rfl⟩
  rw [hz];have HZ := Lib.hid hz;clear hz;obtain ⟨ty, hty⟩ : ∃ t, TX y = t := ⟨_, rfl⟩
  have HTY := Lib.hid hty;rw [hty];clear hty;have how := World.ownsRow_lit (base := w17.heap.size) (e := 65) (size := 6) w17 #[.string ⟨#[117]⟩, .int .i64 3, .bool false, .string ty, .slice none 0 0, .slice none 0 0] 1 (Nat.le_refl _) (by decide) rfl;have HOW := Lib.hid how;have hal := alloc_far w17 (.cells #[.string ⟨#[117]⟩, .int .i64 3, .bool false, .string ty, .slice none 0 0, .slice none 0 0] 65);have hfl : (flatB sv es).length = 4 * 6 := by rw [flatB_length, HEB.out.len]
  have hnews : ∀ (j : Nat) u, (flatB sv es)[j]? = some u → (w17.alloc (.cells #[.string ⟨#[117]⟩, .int .i64 3, .bool false, .string ty, .slice none 0 0, .slice none 0 0] 65)).cell? ((⟨ge, 0, none⟩ : Addr).add j) = some u := fun j u hu => by
    obtain ⟨cur, h1, -, h3⟩ := (HEB.out.far hal).blk;rw [show (⟨ge, 0, none⟩ : Addr).add j = ⟨ge, j, none⟩ by unfold Addr.add; split <;> simp_all, heap_cell h1];have := take_get h3 hu
    simpa using this
  have hone := flatB_one sv es;have HFL := Lib.hid hfl;have HNEW := Lib.hid hnews;have HONE := Lib.hid hone;clear how hal hfl hnews hone
  go_wp2_with (at_builtin; go_loud (refine wpList_append_own _ rfl _ _ 52 rfl w17.heap.size 65 i0 _ 6 96 Tryz.underlying52 HI.out HZ0.out HZ1.out HZ2.out rfl (by decide) (.slice (some ⟨w17.heap.size, 0, none⟩) 1 1) 1 [.string ⟨#[117]⟩, .int .i64 3, .bool false, .string ty, .slice none 0 0, .slice none 0 0] rfl HOW.out ⟨ge, 0, none⟩ 4 ce (flatB sv es) rfl HFL.out HNEW.out HONE.out (by decide) (by decide) (by simp) ?_))
  intro v5 w18 hrow hgr hnil;obtain ⟨g5, c5, cur5, rfl, hb5, hc5, hm5, hbl5, hsz5, htk5⟩ := chg_eg (s := sv) (t := 3) (y := y) (es := es) (by rw [HTY.out]; exact hrow);have hal := new_far hgr;have HG5 : Hid (w.heap.size ≤ g5) := Lib.hid (Nat.le_trans HB.out.size hb5);replace HXa := Lib.hid (HXa.out.far hal);replace HB := Lib.hid (HB.out.trans (hal.mono HB.out.size));have HC5 := Lib.hid hc5;have HM5 := Lib.hid hm5;have HSZ5 := Lib.hid hsz5;have HTK5 := Lib.hid htk5;have HBL5 := Lib.hid hbl5;have HOKS := Lib.hid HEB.out.ok;have HLEN := Lib.hid HEB.out.len;clear hrow hgr hnil hb5 hc5 hm5 hbl5 hsz5 htk5 hal HXb HXj HXu HXr HEG HEB HOW HFL HNEW HONE HI HZ0 HZ1 HZ2 HGA HGB HX HY HLK;have hadd : ∀ W, Below w.heap.size w W → Calls Tryz.prog 42 #[.string (TX x), .string ty] W fun e w' => e = .returned (.string (TX (x + y))) ∧ Below W.heap.size W w' := fun W hW => by rw [← HTY.out]; exact numAddT HDX.out HDY.out (by decide) (by decide) W (HE.out.far hW)
  have hmul : ∀ W, Below w.heap.size w W → Calls Tryz.prog 24 #[.string (TX k), .string (TX x)] W fun e w' => e = .returned (.string (TX (k * x))) ∧ Below W.heap.size W w' := fun W hW => numMulT HDK.out HDX.out (by decide) (by decide) W (HE.out.far hW)
  have hiy : ∀ W, Calls Tryz.prog 41 #[.string ty] W fun e w' => e = .returned (.bool (decide (y.den = 1))) ∧ Below W.heap.size W w' := fun W => by rw [← HTY.out]; exact refIsIntT HDY.out (by decide) W
  have HADD := Lib.hid hadd;have HMUL := Lib.hid hmul;have HIY := Lib.hid hiy;clear hadd hmul hiy;generalize TX (x + y) = tp at *;generalize TX (k * x) = tq at *;generalize TX x = tx at *;generalize TX k = tk at *;have htp : (tp.toList == tp.toList) = true := beq_self_eq_true _;have htq : (tq.toList == tq.toList) = true := beq_self_eq_true _
  by_cases hbr : sv = 2 ∧ y.den ≠ 1
  · have hb1 : (sv == 2) = true := beq_iff_eq.2 hbr.1;have hb2 : decide (sv = 2) = true := decide_eq_true hbr.1;have hiy := HIY.out w18;rw [decide_eq_false hbr.2] at hiy;have HIY2 := Lib.hid hiy;clear hiy hbr
    go_wp2_with fail
    refine HIY2.out.mono ?_;rintro e w19 ⟨rfl, hb3⟩;replace HB := Lib.hid (HB.out.trans (hb3.mono HB.out.size));clear hb3 HIY2
    go_wp2_with fail
    refine (HADD.out _ HB.out).mono ?_;rintro e w19a ⟨rfl, hb1⟩;replace HB := Lib.hid (HB.out.trans (hb1.mono HB.out.size));clear hb1
    go_wp2_with fail
    refine (HMUL.out _ HB.out).mono ?_;rintro e w19b ⟨rfl, hb1⟩;replace HB := Lib.hid (HB.out.trans (hb1.mono HB.out.size));clear hb1
    go_wp2_with fail
    refine (awakeL _ (HE.out.far HB.out)).mono ?_;rintro e w19c ⟨rfl, hb1⟩;replace HB := Lib.hid (HB.out.trans (hb1.mono HB.out.size));clear hb1
    go_wp2
    go_ret
    exact ⟨rfl, HB.out⟩
  have hyi : sv = 2 → y.den = 1 := fun h => Classical.byContradiction fun h2 => hbr ⟨h, h2⟩
  have HYI := Lib.hid hyi;clear hbr hyi
  by_cases hs2 : sv = 2
  focus
    have hb1 : (sv == 2) = true := beq_iff_eq.2 hs2;have hb2 : decide (sv = 2) = true := decide_eq_true hs2;have hiy := HIY.out w18;rw [decide_eq_true (HYI.out hs2)] at hiy;have HIY2 := Lib.hid hiy;clear hiy hs2
    go_wp2_with fail
    refine HIY2.out.mono ?_;rintro e w19 ⟨rfl, hb3⟩;replace HB := Lib.hid (HB.out.trans (hb3.mono HB.out.size));replace HXa := Lib.hid (HXa.out.far hb3);replace HBL5 := Lib.hid ((hb3.block _ (lt_of_heap HBL5.out)).trans HBL5.out);clear hb3 HIY2
    have e1 : w19.cell? ⟨g5, 1, none⟩ = some (.int .i64 3) := by
      rw [heap_cell HBL5.out];have := take_get HTK5.out (i := 1) (v := .int .i64 3) rfl
      simpa using this
    have fr := fun i => heap_fz HBL5.out i
    have hne : Sa ≠ g5 := fun e => by
      have h1 := HXa.out.h;rw [e, HBL5.out] at h1;injection h1 with h1;injection h1 with h1 h2;exact absurd h2 (by decide)
    have hen : g5 ≠ Sa := Ne.symm hne;have hc5 := HC5.out;have hm5 := HM5.out;have a0 := heap_cell HXa.out.h 0;have a1 := heap_cell HXa.out.h 1;have a2 := heap_cell HXa.out.h 2
    go_wp2_with fail
    have ho : ∀ g, g ≠ g5 → (w19.setCell ⟨g5, 1, none⟩ (.int .i64 sv)).heap[g]? = w19.heap[g]? := fun g hg => Below.heap_setCell _ _ _ _ hg
    have HEC : Hid (EG (w19.setCell ⟨g5, 1, none⟩ (.int .i64 sv)) (.slice (some ⟨g5, 0, none⟩) 5 c5) 300 (([117], sv, y) :: toG sv es)) := Lib.hid (chg_set HS.out HC5.out HM5.out HSZ5.out HTK5.out HLEN.out HOKS.out HDY.out HYI.out (heap_setCell_same _ g5 1 _ _ (.int .i64 sv) HBL5.out));replace HXa := Lib.hid (⟨(ho Sa hne).trans HXa.out.h, HXa.out.l.but HBL5.out (by decide) ho⟩ : BX (w19.setCell ⟨g5, 1, none⟩ (.int .i64 sv)) Sa sv aa na pa ta 26 qa ca);replace HB := Lib.hid (Below.setCell HB.out (p := ⟨g5, 1, none⟩) HG5.out (.int .i64 sv));clear e1 fr hne hen hc5 hm5 a0 a1 a2 ho hb1 hb2 HBL5;generalize w19.setCell ⟨g5, 1, none⟩ (.int .i64 sv) = wz at *
  rotate_left
  focus
    have hb1 : (sv == 2) = false := by rw [beq_eq_false_iff_ne]; exact hs2
    have hb2 : decide (sv = 2) = false := decide_eq_false hs2;clear hs2
    have e1 : w18.cell? ⟨g5, 1, none⟩ = some (.int .i64 3) := by
      rw [heap_cell HBL5.out];have := take_get HTK5.out (i := 1) (v := .int .i64 3) rfl
      simpa using this
    have fr := fun i => heap_fz HBL5.out i
    have hne : Sa ≠ g5 := fun e => by
      have h1 := HXa.out.h;rw [e, HBL5.out] at h1;injection h1 with h1;injection h1 with h1 h2;exact absurd h2 (by decide)
    have hen : g5 ≠ Sa := Ne.symm hne;have hc5 := HC5.out;have hm5 := HM5.out;have a0 := heap_cell HXa.out.h 0;have a1 := heap_cell HXa.out.h 1;have a2 := heap_cell HXa.out.h 2
    go_wp2_with fail
    have ho : ∀ g, g ≠ g5 → (w18.setCell ⟨g5, 1, none⟩ (.int .i64 sv)).heap[g]? = w18.heap[g]? := fun g hg => Below.heap_setCell _ _ _ _ hg
    have HEC : Hid (EG (w18.setCell ⟨g5, 1, none⟩ (.int .i64 sv)) (.slice (some ⟨g5, 0, none⟩) 5 c5) 300 (([117], sv, y) :: toG sv es)) := Lib.hid (chg_set HS.out HC5.out HM5.out HSZ5.out HTK5.out HLEN.out HOKS.out HDY.out HYI.out (heap_setCell_same _ g5 1 _ _ (.int .i64 sv) HBL5.out));replace HXa := Lib.hid (⟨(ho Sa hne).trans HXa.out.h, HXa.out.l.but HBL5.out (by decide) ho⟩ : BX (w18.setCell ⟨g5, 1, none⟩ (.int .i64 sv)) Sa sv aa na pa ta 26 qa ca);replace HB := Lib.hid (Below.setCell HB.out (p := ⟨g5, 1, none⟩) HG5.out (.int .i64 sv));clear e1 fr hne hen hc5 hm5 a0 a1 a2 ho hb1 hb2 HBL5;generalize w18.setCell ⟨g5, 1, none⟩ (.int .i64 sv) = wz at *
  all_goals
    have hc := evalV (f := fun n => if n = [117] then y else cof es n) HXa.out.l HEC.out (lk_chg HNM.out) HS.out (by decide) (by decide) (HE.out.far HB.out);rw [HZ.out] at hc;obtain ⟨tz, htz⟩ : ∃ t, TX z = t := ⟨_, rfl⟩
    rw [htz] at hc ⊢;have htzz : (tz.toList == tz.toList) = true := beq_self_eq_true _;refine hc.mono ?_;rintro e wq ⟨rfl, hb3⟩;replace HB := Lib.hid (HB.out.trans (hb3.mono HB.out.size));clear hb3 hc htz
    go_wp2_with fail
    refine (HADD.out _ HB.out).mono ?_;rintro e wqa ⟨rfl, hb1⟩;replace HB := Lib.hid (HB.out.trans (hb1.mono HB.out.size));clear hb1
    go_wp2_with fail
    refine (HMUL.out _ HB.out).mono ?_;rintro e wqb ⟨rfl, hb1⟩;replace HB := Lib.hid (HB.out.trans (hb1.mono HB.out.size));clear hb1
    go_wp2_with fail
    refine (awakeL _ (HE.out.far HB.out)).mono ?_;rintro e wqc ⟨rfl, hb1⟩;replace HB := Lib.hid (HB.out.trans (hb1.mono HB.out.size));clear hb1
    go_wp2
    go_ret
    exact ⟨rfl, HB.out⟩
end
end Go.Proofs.YteoklapcifonaaaGreatDoor

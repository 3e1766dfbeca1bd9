/- Terms as forests: their ends, their sorts, their height. -/
import Derived.Test.YthefknoicelhaaaGreatDoorFUS
namespace Go.Proofs.YthefknoicelhaaaGreatDoor.Se
open Go.RowKit Nmx

/-- a node over children with these nodes and sorts is permitted and has sort s -/
structure NodeOk (x : Nd) (ks : List Nd) (ss : List Int) (s : Int) : Prop where
  fp : fpF x = true
  kn : x.kids = ss.length
  rs : rsF x.op x.sort ss = (s, true)
  mul : x.op = 15 → (ks.getD 0 ndZ).op = 3
/-- the nodes of terms that stand side by side from index p on, no deeper than d, with their sorts, their ends, the sorts of all nodes -/
inductive WE : Nat → Nat → List Nd → List Int → List Nat → List Int → Prop
  | nil (p d : Nat) : WE p d [] [] [] []
  | cons {p d : Nat} {x : Nd} {ks rest : List Nd} {ss rs : List Int} {s : Int} {Ek Er : List Nat} {Sk Sr : List Int} :
      WE (p + 1) d ks ss Ek Sk → NodeOk x ks ss s → WE (p + 1 + ks.length) (d + 1) rest rs Er Sr → WE p (d + 1) (x :: (ks ++ rest)) (s :: rs) ((p + 1 + ks.length) :: (Ek ++ Er)) (s :: (Sk ++ Sr))
theorem WE.lens {p d : Nat} {ts : List Nd} {ss : List Int} {E : List Nat} {S : List Int} (h : WE p d ts ss E S) : E.length = ts.length ∧ S.length = ts.length ∧ ss.length ≤ ts.length := by
  induction h with
  | nil => exact ⟨rfl, rfl, Nat.le_refl _⟩
  | cons _ _ _ h1 h2 => simp only [List.length_cons, List.length_append]; omega
theorem WE.up {p d : Nat} {ts : List Nd} {ss : List Int} {E : List Nat} {S : List Int} (h : WE p d ts ss E S) : ∀ i, i < E.length → p + i < E.getD i 0 ∧ E.getD i 0 ≤ p + ts.length := by
  induction h with
  | nil => intro i hi; cases hi
  | @cons p d x ks rest ss rs s Ek Er Sk Sr hk hn hr ihk ihr =>
    have lk := hk.lens
    have lr := hr.lens
    intro i hi
    simp only [List.length_cons, List.length_append] at hi ⊢
    cases i with
    | zero => simp only [List.getD_cons_zero]; omega
    | succ i =>
      rw [List.getD_cons_succ]
      by_cases hlt : i < Ek.length
      · have := ihk i hlt
        rw [List.getD_eq_getElem?_getD, List.getElem?_append_left hlt, ← List.getD_eq_getElem?_getD]
        omega
      · have := ihr (i - Ek.length) (by omega)
        rw [List.getD_eq_getElem?_getD, List.getElem?_append_right (by omega), ← List.getD_eq_getElem?_getD]
        omega
/-- E' agrees from p on with E -/
def Agr {α : Type} (z : α) (b : Nat) (F : List α) (p : Nat) (E : List α) : Prop := ∀ i, i < E.length → F.getD (p + i - b) z = E.getD i z
theorem Agr.head {α : Type} {z : α} {b : Nat} {F : List α} {p : Nat} {e : α} {E : List α} (h : Agr z b F p (e :: E)) : F.getD (p - b) z = e := by
  have := h 0 (by simp)
  simpa using this
theorem Agr.tail {α : Type} {z : α} {b : Nat} {F : List α} {p : Nat} {e : α} {E : List α} (h : Agr z b F p (e :: E)) : Agr z b F (p + 1) E := fun i hi => by
  have := h (i + 1) (by simpa using hi)
  rw [List.getD_cons_succ] at this
  rw [show p + 1 + i - b = p + (i + 1) - b by omega]; exact this
theorem Agr.left {α : Type} {z : α} {b : Nat} {F : List α} {p : Nat} {E1 E2 : List α} (h : Agr z b F p (E1 ++ E2)) : Agr z b F p E1 := fun i hi => by
  have := h i (by rw [List.length_append]; omega)
  rwa [List.getD_eq_getElem?_getD (l := E1 ++ E2), List.getElem?_append_left hi, ← List.getD_eq_getElem?_getD] at this
theorem Agr.right {α : Type} {z : α} {b : Nat} {F : List α} {p : Nat} {E1 E2 : List α} (h : Agr z b F p (E1 ++ E2)) : Agr z b F (p + E1.length) E2 := fun i hi => by
  have := h (E1.length + i) (by rw [List.length_append]; omega)
  rw [List.getD_eq_getElem?_getD (l := E1 ++ E2), List.getElem?_append_right (by omega), ← List.getD_eq_getElem?_getD, Nat.add_sub_cancel_left] at this
  rw [show p + E1.length + i - b = p + (E1.length + i) - b by omega]; exact this
theorem WE.steps {p d : Nat} {ts : List Nd} {ss : List Int} {E : List Nat} {S : List Int} (h : WE p d ts ss E S) : ∀ (n b : Nat) (F : List Nat) (k : Nat), b ≤ p → p + ts.length ≤ n → Agr 0 b F p E → stepsE n b F (ss.length + k) p = stepsE n b F k (p + ts.length) := by
  induction h with
  | nil => intro n b F k _ _ _; simp
  | @cons p d x ks rest ss rs s Ek Er Sk Sr hk hn hr ihk ihr =>
    intro n b F k hb hl ha
    have lk := hk.lens
    simp only [List.length_cons, List.length_append] at hl ⊢
    rw [show rs.length + 1 + k = (rs.length + k) + 1 by omega]
    simp only [stepsE]
    rw [if_neg (by omega), ha.head]
    have hr2 := ha.tail.right
    rw [lk.1] at hr2
    rw [ihr n b F k (by omega) (by omega) hr2]
    congr 1; omega
theorem WE.ends {p d : Nat} {ts : List Nd} {ss : List Int} {E : List Nat} {S : List Int} (h : WE p d ts ss E S) : ∀ (n : Nat) (kt : List Int) (Et : List Nat), endsF n kt = some Et → Et.length = kt.length → n = p + ts.length + kt.length → endsF n (ts.map Nd.kids ++ kt) = some (E ++ Et) := by
  induction h with
  | nil => intro n kt Et h _ _; exact h
  | @cons p d x ks rest ss rs s Ek Er Sk Sr hk hn hr ihk ihr =>
    intro n kt Et he hl hn'
    have lk := hk.lens
    have lr := hr.lens
    simp only [List.length_cons, List.length_append] at hn'
    have h1 := ihr n kt Et he hl (by omega)
    have h2 := ihk n (rest.map Nd.kids ++ kt) (Er ++ Et) h1 (by simp [lr.1, hl]) (by simp; omega)
    have e : (x :: (ks ++ rest)).map Nd.kids ++ kt = x.kids :: (ks.map Nd.kids ++ (rest.map Nd.kids ++ kt)) := by simp
    rw [e]
    simp only [endsF]
    rw [h2]
    have hb : n - (ks.map Nd.kids ++ (rest.map Nd.kids ++ kt)).length = p + 1 := by simp; omega
    simp only [hb]
    rw [if_neg (by rw [hn.kn]; omega), hn.kn, Int.toNat_natCast]
    have hst := hk.steps n (p + 1) (Ek ++ (Er ++ Et)) 0 (Nat.le_refl _) (by omega) (fun i hi => by
      rw [show p + 1 + i - (p + 1) = i by omega, List.getD_eq_getElem?_getD, List.getElem?_append_left hi, ← List.getD_eq_getElem?_getD])
    simp only [Nat.add_zero] at hst
    rw [hst]
    simp [stepsE]
theorem WE.trail {p d : Nat} {ts : List Nd} {ss : List Int} {E : List Nat} {S : List Int} (h : WE p d ts ss E S) : ∀ (F : List Nat) (G : List Int) (u : Nat), (∀ j, j < u → j < F.getD j 0) → p + ts.length ≤ u → Agr 0 0 F p E → Agr 0 0 G p S → (Se.trail F p (p + ts.length)).map (G.getD · 0) = ss := by
  induction h with
  | nil => intro F G u _ _ _ _; rw [trail_stop (by simp)]; rfl
  | @cons p d x ks rest ss rs s Ek Er Sk Sr hk hn hr ihk ihr =>
    intro F G u hu hl hF hG
    have lk := hk.lens
    simp only [List.length_cons, List.length_append] at hl ⊢
    have e0 : F.getD p 0 = p + 1 + ks.length := by have := hF.head; simpa using this
    have g0 : G.getD p 0 = s := by have := hG.head; simpa using this
    rw [trail_step (fun j hj => hu j (by omega)) (by omega) e0, List.map_cons, g0]
    have f2 := hF.tail.right
    have g2 := hG.tail.right
    rw [lk.1] at f2
    rw [lk.2.1] at g2
    have := ihr F G u hu (by omega) f2 g2
    rw [show p + 1 + ks.length + rest.length = p + (ks.length + rest.length + 1) by omega] at this
    rw [this]
theorem WE.srt {p d : Nat} {ts : List Nd} {ss : List Int} {E : List Nat} {S : List Int} (h : WE p d ts ss E S) : ∀ (T : List Nd) (F : List Nat) (G Sc : List Int), (∀ j, j < T.length → j < F.getD j 0) → F.length = T.length → p + ts.length ≤ T.length → Agr ndZ 0 T p ts → Agr 0 0 F p E → Agr 0 0 G p S → Sc.length = T.length → (∀ j, p + ts.length ≤ j → j < T.length → Sc.getD j 0 = G.getD j 0) →
    ∃ Sc', Se.srt T F (p + ts.length) Sc = Se.srt T F p Sc' ∧ Sc'.length = T.length ∧ ∀ j, p ≤ j → j < T.length → Sc'.getD j 0 = G.getD j 0 := by
  induction h with
  | nil => intro T F G Sc _ _ _ _ _ _ hl hS; exact ⟨Sc, by simp, hl, fun j h1 h2 => hS j (by simpa using h1) h2⟩
  | @cons p d x ks rest ss rs s Ek Er Sk Sr hk hn hr ihk ihr =>
    intro T F G Sc hu hFl hle hT hF hG hl hS
    have lk := hk.lens
    have lr := hr.lens
    simp only [List.length_cons, List.length_append] at hle hS ⊢
    have f2 := hF.tail.right
    have g2 := hG.tail.right
    have t2 := hT.tail.right
    rw [lk.1] at f2
    rw [lk.2.1] at g2
    obtain ⟨S1, a1, a2, a3⟩ := ihr T F G Sc hu hFl (by omega) t2 f2 g2 hl (fun j h1 h2 => hS j (by omega) h2)
    obtain ⟨S2, b1, b2, b3⟩ := ihk T F G S1 hu hFl (by omega) hT.tail.left hF.tail.left hG.tail.left a2 (fun j h1 h2 => a3 j h1 h2)
    have e1 : p + 1 + ks.length + rest.length = p + (ks.length + rest.length + 1) := by omega
    rw [e1] at a1
    rw [a1, b1]
    have hx : T.getD p ndZ = x := by have := hT.head; simpa using this
    have hx1 : x.op = 15 → (T.getD (p + 1) ndZ).op = 3 := fun h15 => by
      have hm := hn.mul h15
      cases ks with
      | nil => simp [ndZ] at hm
      | cons k ks =>
        have := hT.tail.head
        have e : T.getD (p + 1) ndZ = k := by simpa using this
        rw [e]; simpa using hm
    have e0 : F.getD p 0 = p + 1 + ks.length := by have := hF.head; simpa using this
    have g0 : G.getD p 0 = s := by have := hG.head; simpa using this
    have hgS : Agr 0 0 S2 (p + 1) Sk := fun i hi => by
      have := hG.tail.left i hi
      rw [Nat.sub_zero] at this ⊢
      rw [b3 (p + 1 + i) (by omega) (by omega)]; exact this
    have hks : kidsS F S2 p = ss := by
      unfold kidsS
      rw [e0]
      exact hk.trail F S2 T.length hu (by omega) hF.tail.left hgS
    refine ⟨S2.set p s, ?_, by rw [List.length_set]; exact b2, fun j h1 h2 => ?_⟩
    · show Se.srt T F (p + 1) S2 = _
      simp only [Se.srt]
      rw [hx, hks, hn.fp, hn.rs]
      have hc : (true && !(x.op == 15 && !((T.getD (p + 1) ndZ).op == 3))) = true := by
        by_cases h15 : x.op = 15
        · rw [hx1 h15]; simp
        · simp [h15]
      rw [if_pos hc]
      rfl
    · by_cases hj : j = p
      · subst hj
        rw [g0, List.getD_eq_getElem?_getD, List.getElem?_set_self (by omega)]; rfl
      · rw [List.getD_eq_getElem?_getD, List.getElem?_set_ne (fun e => hj e.symm), ← List.getD_eq_getElem?_getD]
        exact b3 j (by omega) h2
end Go.Proofs.YthefknoicelhaaaGreatDoor.Se
/- The height of a term; its shape; its names. -/
namespace Go.Proofs.YthefknoicelhaaaGreatDoor.Se
open Go.RowKit Nmx
theorem drop_drop (i j : Nat) (h : j ≤ i) : ∀ l : List Nat, (l.dropWhile (fun x => decide (x ≤ j))).dropWhile (fun x => decide (x ≤ i)) = l.dropWhile (fun x => decide (x ≤ i)) := by
  intro l
  induction l with
  | nil => rfl
  | cons x l ih =>
    by_cases hx : x ≤ j
    · rw [List.dropWhile_cons_of_pos (by simpa using hx), ih, List.dropWhile_cons_of_pos (by simp; omega)]
    · rw [List.dropWhile_cons_of_neg (by simpa using hx)]
theorem popE_popE (i j : Nat) (h : j ≤ i) (op : List Nat) : popE i (popE j op) = popE i op := by
  unfold popE
  rw [List.reverse_reverse]
  exact congrArg List.reverse (drop_drop i j h _)
theorem popE_len (i : Nat) (op : List Nat) : (popE i op).length ≤ op.length := by
  unfold popE
  rw [List.length_reverse]
  exact Nat.le_trans (List.dropWhile_sublist _).length_le (by rw [List.length_reverse]; exact Nat.le_refl _)
theorem popE_le (i j : Nat) (h : j ≤ i) (op : List Nat) : (popE i op).length ≤ (popE j op).length := by
  rw [← popE_popE i j h op]; exact popE_len i _
theorem WE.high {p d : Nat} {ts : List Nd} {ss : List Int} {E : List Nat} {S : List Int} (h : WE p d ts ss E S) : ∀ (Et op : List Nat) (best : Nat), ∃ op' best', heightF p (E ++ Et) op best = heightF (p + ts.length) Et op' best' ∧ popE (p + ts.length) op' = popE (p + ts.length) op ∧ best' ≤ max best ((popE p op).length + d) := by
  induction h with
  | nil => intro Et op best; exact ⟨op, best, rfl, rfl, Nat.le_max_left _ _⟩
  | @cons p d x ks rest ss rs s Ek Er Sk Sr hk hn hr ihk ihr =>
    intro Et op best
    have e0 : (p + 1 + ks.length) :: (Ek ++ Er) ++ Et = (p + 1 + ks.length) :: (Ek ++ (Er ++ Et)) := by simp
    rw [e0]
    simp only [heightF]
    obtain ⟨o1, b1, a1, a2, a3⟩ := ihk (Er ++ Et) (popE p op ++ [p + 1 + ks.length]) (max best ((popE p op).length + 1))
    rw [a1]
    obtain ⟨o2, b2, c1, c2, c3⟩ := ihr Et o1 b1
    rw [c1]
    have e1 : p + 1 + ks.length + rest.length = p + (x :: (ks ++ rest)).length := by simp only [List.length_cons, List.length_append]; omega
    rw [e1] at c2 ⊢
    have hpop : popE (p + 1 + ks.length) o1 = popE (p + 1 + ks.length) op := by
      rw [a2, popE_pop _ _ _ (Nat.le_refl _), popE_popE _ _ (by omega)]
    refine ⟨o2, b2, rfl, ?_, ?_⟩
    · rw [c2, ← popE_popE _ (p + 1 + ks.length) (by simp only [List.length_cons, List.length_append]; omega) o1, hpop, popE_popE _ _ (by simp only [List.length_cons, List.length_append]; omega)]
    · have l1 : (popE (p + 1) (popE p op ++ [p + 1 + ks.length])).length ≤ (popE p op).length + 1 := Nat.le_trans (popE_len _ _) (by simp)
      have l2 : (popE (p + 1 + ks.length) o1).length ≤ (popE p op).length := by rw [hpop]; exact popE_le _ _ (by omega) op
      omega
/-- the nodes of one term, its depth at most d, its sort s -/
def WT (d : Nat) (ts : List Nd) (s : Int) : Prop := ∃ E S, WE 0 d ts [s] E S
theorem WT.shp {d : Nat} {ts : List Nd} {s : Int} {E : List Nat} {S : List Int} (h : WE 0 d ts [s] E S) (hd : d ≤ 257) (hl : ts.length ≤ 20000) : Se.shp ts = some (E, S) ∧ S.getD 0 0 = s := by
  have lh := h.lens
  have hne : ts ≠ [] := by intro e; rw [e] at lh; simp at lh
  have hpos : 0 < ts.length := List.length_pos_iff.2 hne
  have hE := h.ends ts.length [] [] rfl rfl (by simp)
  rw [List.append_nil, List.append_nil] at hE
  have hst := h.steps ts.length 0 E 0 (Nat.le_refl _) (by omega) (fun i hi => by simp)
  have hE0 : E.getD 0 0 = ts.length := by
    simp only [List.length_cons, List.length_nil, stepsE, Nat.zero_add, Nat.add_zero] at hst
    rw [if_neg (by omega)] at hst
    simpa using hst
  obtain ⟨o', b', h1, -, h3⟩ := h.high [] [] 0
  rw [List.append_nil] at h1
  have hht : heightF 0 E [] 0 ≤ 257 := by
    rw [h1]
    simp only [heightF]
    have : (popE 0 []).length = 0 := rfl
    omega
  have hup : ∀ j, j < ts.length → j < E.getD j 0 := fun j hj => by have := (h.up j (by omega)).1; omega
  obtain ⟨Sc, g1, g2, g3⟩ := h.srt ts E S (List.replicate ts.length 0) hup lh.1 (by omega) (fun i hi => by simp) (fun i hi => by simp) (fun i hi => by simp) (by simp) (fun j h1 h2 => by omega)
  have hSc : Sc = S := by
    apply List.ext_getElem?
    intro j
    by_cases hj : j < ts.length
    · have := g3 j (Nat.zero_le _) hj
      rw [List.getD_eq_getElem?_getD, List.getD_eq_getElem?_getD, List.getElem?_eq_getElem (by omega), List.getElem?_eq_getElem (by omega)] at this
      rw [List.getElem?_eq_getElem (by omega), List.getElem?_eq_getElem (by omega)]
      exact congrArg some this
    · rw [List.getElem?_eq_none (by omega), List.getElem?_eq_none (by omega)]
  rw [Nat.zero_add] at g1
  refine ⟨?_, ?_⟩
  · unfold Se.shp
    rw [if_neg (fun e => by rcases e with e | e; exact hne e; omega), hE]
    simp only
    rw [if_pos ⟨hE0, hht⟩, g1, hSc]
    rfl
  · have ht := h.trail E S ts.length hup (by omega) (fun i hi => by simp) (fun i hi => by simp)
    rw [Nat.zero_add, trail_step hup hpos hE0, trail_stop (by omega)] at ht
    simpa using ht
/-- names that are used in one way: those of a list -/
def Nm (V : List (ByteArray × Int)) (ts : List Nd) : Prop := ∀ x ∈ ts, ¬ x.op = 5 ∧ (x.op = 4 → lookA x.name V = some x.sort)
theorem lookA_put {β : Type} (k k' : ByteArray) (v : β) : ∀ V : List (ByteArray × β), lookA k (putA k' v V) = if k = k' then some v else lookA k V := by
  intro V
  induction V with
  | nil => simp only [putA, lookA]
  | cons p V ih =>
    simp only [putA]
    by_cases hk : k' = p.1
    · rw [if_pos hk]
      simp only [lookA]
      by_cases h2 : k = k'
      · rw [if_pos h2, if_pos h2]
      · rw [if_neg h2, if_neg h2, if_neg (fun e => h2 (e.trans hk.symm))]
    · rw [if_neg hk]
      simp only [lookA]
      rw [ih]
      by_cases h2 : k = p.1
      · rw [if_pos h2, if_pos h2, if_neg (fun e => hk (e.symm.trans h2))]
      · rw [if_neg h2, if_neg h2]
theorem Nm.nag {V : List (ByteArray × Int)} {ts : List Nd} (h : Nm V ts) (E : List Nat) (S : List Int) : ∀ (i : Nat) (U : List (ByteArray × Int)) (F : List (ByteArray × List Int)), (∀ k v, lookA k U = some v → lookA k V = some v) → ∃ U', nagF E S ts i U F = some (U', F) ∧ ∀ k v, lookA k U' = some v → lookA k V = some v := by
  induction ts with
  | nil => intro i U F h; exact ⟨U, rfl, h⟩
  | cons x ts ih =>
    intro i U F hU
    obtain ⟨h5, h4⟩ := h x (by simp)
    have hts : Nm V ts := fun y hy => h y (by simp [hy])
    simp only [nagF]
    by_cases q4 : x.op = 4
    · rw [if_pos q4]
      have hv := h4 q4
      have hall : (lookA x.name U).all (· == x.sort) = true := by
        cases hl : lookA x.name U with
        | none => rfl
        | some v =>
          have := hU _ _ hl
          rw [hv] at this
          simp [Option.some.inj this]
      rw [if_pos hall]
      exact ih hts (i + 1) _ F (fun k v hk => by
        rw [lookA_put] at hk
        by_cases e : k = x.name
        · rw [if_pos e] at hk; rw [e, hv]; exact hk
        · rw [if_neg e] at hk; exact hU k v hk)
    · rw [if_neg q4, if_neg h5]
      exact ih hts (i + 1) U F hU
theorem Nm.na {V : List (ByteArray × Int)} {ts : List Nd} (h : Nm V ts) (E : List Nat) (S : List Int) : naF ts E S = true := by
  obtain ⟨U, hU, -⟩ := h.nag E S 0 [] [] (fun k v hk => by cases hk)
  unfold naF
  rw [hU]
  simp only [List.all_eq_true]
  intro x hx
  have := (h x hx).1
  simp [this]
theorem WT.vd {V : List (ByteArray × Int)} {d : Nat} {ts : List Nd} {s : Int} (h : WT d ts s) (hn : Nm V ts) (hd : d ≤ 257) (hl : ts.length ≤ 20000) : vdF (naF ts) ts = true ∧ soF (naF ts) ts = s := by
  obtain ⟨E, S, h⟩ := h
  obtain ⟨h1, h2⟩ := WT.shp h hd hl
  unfold vdF soF
  rw [h1]
  simp only
  rw [hn.na, if_pos rfl]
  exact ⟨rfl, h2⟩
end Go.Proofs.YthefknoicelhaaaGreatDoor.Se
/- What the reference answers at a node: plain part. -/
namespace Go.Proofs.YthefknoicelhaaaGreatDoor.Se
open Go.RowKit Nmx
def sameF (l : List Int) (a out : Int) : Int := if l.all (· == a) then out else 0
def nuF (s : Int) : Bool := s == 2 || s == 3
/-- the sort by the reference, 0 where it is not permitted -/
def rrF (op sort first : Int) (l : List Int) : Int :=
  if op = 1 ∨ op = 2 then 1 else if op = 3 ∨ op = 4 ∨ op = 5 then sort
  else if op = 6 ∨ op = 7 ∨ op = 8 ∨ op = 9 then sameF l 1 1
  else if op = 10 then (if l.getD 0 0 == 1 && l.getD 1 0 == l.getD 2 0 then l.getD 1 0 else 0)
  else if op = 11 then sameF l (l.getD 0 0) 1
  else if op = 12 ∨ op = 13 then (if nuF (l.getD 0 0) then sameF l (l.getD 0 0) 1 else 0)
  else if op = 14 then (if nuF (l.getD 0 0) then sameF l (l.getD 0 0) (l.getD 0 0) else 0)
  else if op = 15 then (if first = 3 then sameF l (l.getD 0 0) (l.getD 0 0) else 0)
  else if op = 16 ∨ op = 17 then sameF l 2 2
  else if op = 20 then sameF l 2 4
  else if op = 18 then (if l.getD 0 0 == 4 && l.getD 1 0 == 2 then 2 else 0)
  else if op = 19 then (if l.getD 0 0 == 4 && (l.getD 1 0 == 2 && l.getD 2 0 == 2) then 4 else 0)
  else 0
/-- how many children an operator may have, by the reference -/
def raF (op n : Int) : Bool :=
  if op = 1 ∨ op = 2 ∨ op = 3 ∨ op = 4 then n == 0
  else if op = 5 then decide (1 ≤ n) && decide (n ≤ 40)
  else if op = 6 ∨ op = 16 ∨ op = 17 ∨ op = 20 then n == 1
  else if op = 7 ∨ op = 8 then decide (0 ≤ n)
  else if op = 10 ∨ op = 19 then n == 3
  else if op = 14 then decide (1 ≤ n)
  else n == 2

theorem all_same {l : List Int} {a c o : Int} (h : allF (a :: l) c = true) : a = c ∧ sameF (a :: l) a o = o := by
  unfold allF at h
  simp only [List.all_cons, Bool.and_eq_true, beq_iff_eq] at h
  refine ⟨h.1, ?_⟩
  unfold sameF
  rw [if_pos]
  simp only [List.all_cons, Bool.and_eq_true, true_and, beq_self_eq_true]
  rw [h.1]; exact h.2
theorem len0 {ss : List Int} (h : (ss.length : Int) ≤ 0) : ss = [] := List.length_eq_zero_iff.1 (by omega)
theorem len1 {ss : List Int} (h : 1 ≤ (ss.length : Int)) (h' : (ss.length : Int) ≤ 1) : ∃ a, ss = [a] := List.length_eq_one_iff.1 (by omega)
theorem len2 {ss : List Int} (h : 2 ≤ (ss.length : Int)) (h' : (ss.length : Int) ≤ 2) : ∃ a b, ss = [a, b] := by
  match ss, h, h' with
  | [a, b], _, _ => exact ⟨a, b, rfl⟩
  | [], h, _ => simp at h
  | [_], h, _ => simp at h
  | _ :: _ :: _ :: _, _, h' => simp only [List.length_cons] at h'; omega
theorem len3 {ss : List Int} (h : 3 ≤ (ss.length : Int)) (h' : (ss.length : Int) ≤ 3) : ∃ a b c, ss = [a, b, c] := by
  match ss, h, h' with
  | [a, b, c], _, _ => exact ⟨a, b, c, rfl⟩
  | [], h, _ => simp at h
  | [_], h, _ => simp at h
  | [_, _], h, _ => simp at h
  | _ :: _ :: _ :: _ :: _, _, h' => simp only [List.length_cons] at h'; omega
theorem lenp {ss : List Int} (h : 1 ≤ (ss.length : Int)) : ∃ a l, ss = a :: l := by
  cases ss with
  | nil => simp at h
  | cons a l => exact ⟨a, l, rfl⟩
theorem pr {a s : Int} {b : Bool} (h : (a, b) = (s, true)) : a = s ∧ b = true := ⟨congrArg Prod.fst h, congrArg Prod.snd h⟩
theorem same_all {l : List Int} {a o : Int} (h : allF l a = true) : sameF l a o = o := by
  unfold sameF; unfold allF at h; rw [if_pos h]
theorem two_or {l : List Int} {a : Int} (h : (allF (a :: l) 2 || allF (a :: l) 3) = true) : (a = 2 ∨ a = 3) ∧ nuF a = true ∧ ∀ o, sameF (a :: l) a o = o := by
  rw [Bool.or_eq_true] at h
  rcases h with h | h
  · obtain ⟨rfl, -⟩ := all_same (o := 0) h; exact ⟨.inl rfl, rfl, fun o => (all_same h).2⟩
  · obtain ⟨rfl, -⟩ := all_same (o := 0) h; exact ⟨.inr rfl, rfl, fun o => (all_same h).2⟩
/-- where the program permits a node over these sorts, so does the reference, and the sorts are the same -/
theorem rr_of {x : Nd} {ss : List Int} {s first : Int} (hfp : fpF x = true) (hk : x.kids = ss.length) (hrs : rsF x.op x.sort ss = (s, true)) (hso : ∀ a ∈ ss, 1 ≤ a ∧ a ≤ 4) (hf : x.op = 15 → first = 3) : rrF x.op x.sort first ss = s ∧ raF x.op x.kids = true ∧ 1 ≤ s ∧ s ≤ 4 := by
  obtain ⟨op, sort, name, num, kids⟩ := x
  simp only at hk hrs hf ⊢
  unfold fpF at hfp
  simp only [Bool.and_eq_true, decide_eq_true_eq] at hfp
  obtain ⟨h1, h2, h3, h4, hfd⟩ := hfp
  subst hk
  rcases op_cases op with (rfl | rfl | rfl | rfl | rfl | rfl | rfl | rfl | rfl | rfl | rfl | rfl | rfl | rfl | rfl | rfl | rfl | rfl | rfl | rfl) | h
  · obtain rfl := len0 h4
    obtain ⟨rfl, -⟩ := pr hrs
    exact ⟨rfl, rfl, by decide, by decide⟩
  · obtain rfl := len0 h4
    obtain ⟨rfl, -⟩ := pr hrs
    exact ⟨rfl, rfl, by decide, by decide⟩
  · obtain rfl := len0 h4
    obtain ⟨rfl, -⟩ := pr hrs
    have hq : sort = 2 ∨ sort = 3 := by
      unfold fdF at hfd
      rw [if_pos rfl, Bool.and_eq_true, Bool.or_eq_true] at hfd
      simpa using hfd.1
    exact ⟨rfl, rfl, by omega, by omega⟩
  · obtain rfl := len0 h4
    obtain ⟨rfl, -⟩ := pr hrs
    have hq : 1 ≤ sort ∧ sort ≤ 4 := by
      unfold fdF at hfd
      rw [if_neg (show ¬ (4 : Int) = 3 by decide), if_pos (show (4 : Int) = 4 ∨ (4 : Int) = 5 by decide), Bool.and_eq_true] at hfd
      have := hfd.1
      unfold srF at this
      simpa using this
    exact ⟨rfl, rfl, hq.1, hq.2⟩
  · obtain ⟨rfl, -⟩ := pr hrs
    have hq : 1 ≤ sort ∧ sort ≤ 4 := by
      unfold fdF at hfd
      rw [if_neg (show ¬ (5 : Int) = 3 by decide), if_pos (show (5 : Int) = 4 ∨ (5 : Int) = 5 by decide), Bool.and_eq_true] at hfd
      have := hfd.1
      unfold srF at this
      simpa using this
    refine ⟨rfl, ?_, hq.1, hq.2⟩
    show (decide (1 ≤ (ss.length : Int)) && decide ((ss.length : Int) ≤ 40)) = true
    have h3' : 1 ≤ (ss.length : Int) := h3
    have h4' : (ss.length : Int) ≤ 40 := h4
    simp [h3', h4']
  · obtain ⟨a, rfl⟩ := len1 h3 h4
    obtain ⟨rfl, ha⟩ := pr hrs
    exact ⟨same_all ha, rfl, by decide, by decide⟩
  · obtain ⟨rfl, ha⟩ := pr hrs
    refine ⟨same_all ha, ?_, by decide, by decide⟩
    show decide (0 ≤ (ss.length : Int)) = true
    simp
  · obtain ⟨rfl, ha⟩ := pr hrs
    refine ⟨same_all ha, ?_, by decide, by decide⟩
    show decide (0 ≤ (ss.length : Int)) = true
    simp
  · obtain ⟨a, b, rfl⟩ := len2 h3 h4
    obtain ⟨rfl, ha⟩ := pr hrs
    exact ⟨same_all ha, rfl, by decide, by decide⟩
  · obtain ⟨a, b, c, rfl⟩ := len3 h3 h4
    obtain ⟨rfl, ha⟩ := pr hrs
    have hb := hso _ (show b ∈ [a, b, c] by simp)
    have ha2 : (a == 1 && b == c) = true := ha
    exact ⟨by show (if (a == 1 && b == c) = true then b else 0) = b; rw [if_pos ha2], rfl, hb.1, hb.2⟩
  · obtain ⟨a, b, rfl⟩ := len2 h3 h4
    obtain ⟨rfl, ha⟩ := pr hrs
    have hab : a = b := by simpa using ha
    subst hab
    exact ⟨by show sameF [a, a] a 1 = 1; unfold sameF; rw [if_pos (by simp)], rfl, by decide, by decide⟩
  · obtain ⟨a, b, rfl⟩ := len2 h3 h4
    obtain ⟨rfl, ha⟩ := pr hrs
    obtain ⟨h5, h6, h7⟩ := two_or ha
    exact ⟨by show (if nuF a = true then sameF [a, b] a 1 else 0) = 1; rw [if_pos h6, h7], rfl, by decide, by decide⟩
  · obtain ⟨a, b, rfl⟩ := len2 h3 h4
    obtain ⟨rfl, ha⟩ := pr hrs
    obtain ⟨h5, h6, h7⟩ := two_or ha
    exact ⟨by show (if nuF a = true then sameF [a, b] a 1 else 0) = 1; rw [if_pos h6, h7], rfl, by decide, by decide⟩
  · obtain ⟨a, l, rfl⟩ := lenp h3
    obtain ⟨rfl, ha⟩ := pr hrs
    obtain ⟨h5, h6, h7⟩ := two_or ha
    refine ⟨by show (if nuF a = true then sameF (a :: l) a a else 0) = a; rw [if_pos h6, h7], ?_, by show 1 ≤ a; omega, by show a ≤ 4; omega⟩
    show decide (1 ≤ ((a :: l).length : Int)) = true
    simp; omega
  · obtain ⟨a, b, rfl⟩ := len2 h3 h4
    obtain ⟨rfl, ha⟩ := pr hrs
    obtain ⟨h5, h6, h7⟩ := two_or ha
    exact ⟨by show (if first = 3 then sameF [a, b] a a else 0) = a; rw [if_pos (hf rfl), h7], rfl, by show 1 ≤ a; omega, by show a ≤ 4; omega⟩
  · obtain ⟨a, rfl⟩ := len1 h3 h4
    obtain ⟨rfl, ha⟩ := pr hrs
    have hab : a = 2 := by simpa using ha
    subst hab
    exact ⟨rfl, rfl, by decide, by decide⟩
  · obtain ⟨a, rfl⟩ := len1 h3 h4
    obtain ⟨rfl, ha⟩ := pr hrs
    have hab : a = 2 := by simpa using ha
    subst hab
    exact ⟨rfl, rfl, by decide, by decide⟩
  · obtain ⟨a, b, rfl⟩ := len2 h3 h4
    obtain ⟨rfl, ha⟩ := pr hrs
    have ha2 : (a == 4 && b == 2) = true := ha
    exact ⟨by show (if (a == 4 && b == 2) = true then 2 else 0) = 2; rw [if_pos ha2], rfl, by decide, by decide⟩
  · obtain ⟨a, b, c, rfl⟩ := len3 h3 h4
    obtain ⟨rfl, ha⟩ := pr hrs
    have ha2 : (a == 4 && (b == 2 && c == 2)) = true := ha
    exact ⟨by show (if (a == 4 && (b == 2 && c == 2)) = true then 4 else 0) = 4; rw [if_pos ha2], rfl, by decide, by decide⟩
  · obtain ⟨a, rfl⟩ := len1 h3 h4
    obtain ⟨rfl, ha⟩ := pr hrs
    have hab : a = 2 := by simpa using ha
    subst hab
    exact ⟨rfl, rfl, by decide, by decide⟩
  · omega
theorem WE.sorts {p d : Nat} {ts : List Nd} {ss : List Int} {E : List Nat} {S : List Int} (h : WE p d ts ss E S) : ∀ a ∈ ss, 1 ≤ a ∧ a ≤ 4 := by
  induction h with
  | nil => intro a ha; cases ha
  | cons hk hn hr ihk ihr =>
    intro a ha
    rcases List.mem_cons.1 ha with rfl | ha
    · exact (rr_of (first := 3) hn.fp hn.kn hn.rs ihk (fun _ => rfl)).2.2
    · exact ihr a ha
end Go.Proofs.YthefknoicelhaaaGreatDoor.Se

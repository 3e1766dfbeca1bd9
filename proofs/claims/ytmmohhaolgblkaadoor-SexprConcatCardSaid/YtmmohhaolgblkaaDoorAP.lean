/- A valid list of items as its trees, with their ends and their texts: in plain words. -/
import Derived.Test.YtmmohhaolgblkaaDoorAL
namespace Go.Proofs.YtmmohhaolgblkaaDoor
open Go.RowKit

/-- 'El', 'Tl': the index behind each item of 'its', and its text; 'ts': the texts of those that are no others' elements -/
inductive Bush : Nat → Nat → List It → List Nat → List (List UInt8) → List (List UInt8) → Prop
  | nil (d a : Nat) : Bush d a [] [] [] []
  | leaf {d a : Nat} {kind pos : Int} {text : ByteArray} {r : List It} {Er : List Nat} {Tr ts : List (List UInt8)} (hk : leafOk kind text.data.toList = true) (h : Bush d (a + 1) r Er Tr ts) :
      Bush d a (⟨kind, text, 0, pos⟩ :: r) ((a + 1) :: Er) (leafText kind text.data.toList :: Tr) (leafText kind text.data.toList :: ts)
  | list {d a : Nat} {pos : Int} {sub r : List It} {Es Er : List Nat} {Ts Tr us ts : List (List UInt8)} (hs : Bush d (a + 1) sub Es Ts us) (h : Bush (d + 1) (a + 1 + sub.length) r Er Tr ts) :
      Bush (d + 1) a (⟨5, ⟨#[]⟩, us.length, pos⟩ :: (sub ++ r)) ((a + 1 + sub.length) :: (Es ++ Er)) (listText us :: (Ts ++ Tr)) (listText us :: ts)
theorem Bush.lay {d a : Nat} {its : List It} {El : List Nat} {Tl ts : List (List UInt8)} (h : Bush d a its El Tl ts) : Lay d a its El ts.length := by
  induction h with
  | nil => exact .nil _ _
  | leaf hk _ ih => exact .leaf rfl ih
  | list _ _ ih1 ih2 => exact .list rfl ih1 ih2
theorem Bush.tlen {d a : Nat} {its : List It} {El : List Nat} {Tl ts : List (List UInt8)} (h : Bush d a its El Tl ts) : Tl.length = its.length := by
  induction h with
  | nil => rfl
  | leaf hk _ ih => simp [ih]
  | list _ _ ih1 ih2 => simp [ih1, ih2]
theorem For.bush {d : Nat} {its : List It} {ts : List (List UInt8)} (h : For d its ts) : ∀ (n : Nat) (rest : List Int) (Er : List Nat), endsF n rest = some Er → its.length + rest.length ≤ n →
    ∃ El Tl, endsF n (its.map It.kids ++ rest) = some (El ++ Er) ∧ Bush d (n - rest.length - its.length) its El Tl ts := by
  induction h with
  | nil d => intro n rest Er he hn; exact ⟨[], [], he, .nil _ _⟩
  | @leaf d kind pos text its ts hk h ih =>
    intro n rest Er he hn
    simp only [List.length_cons] at hn
    obtain ⟨El, Tl, h1, h2⟩ := ih n rest Er he (by omega)
    have hl : (its.map It.kids ++ rest).length = its.length + rest.length := by simp
    refine ⟨(n - (its.length + rest.length)) :: El, leafText kind text.data.toList :: Tl, ?_, ?_⟩
    · simp only [List.map_cons, List.cons_append, endsF]
      rw [h1]
      simp only
      rw [if_neg (by omega), hl]
      rfl
    · have e : n - rest.length - (its.length + 1) + 1 = n - rest.length - its.length := by omega
      have := Bush.leaf (a := n - rest.length - (its.length + 1)) (pos := pos) hk (by rw [e]; exact h2)
      rw [e] at this
      rw [List.length_cons, show n - (its.length + rest.length) = n - rest.length - its.length by omega]
      exact this
  | @list d pos sub its us ts hs h ih1 ih2 =>
    intro n rest Er he hn
    simp only [List.length_cons, List.length_append] at hn
    obtain ⟨El, Tl, h1, h2⟩ := ih2 n rest Er he (by omega)
    have hl : (its.map It.kids ++ rest).length = its.length + rest.length := by simp
    obtain ⟨Es, Tt, h3, h4⟩ := ih1 n (its.map It.kids ++ rest) (El ++ Er) h1 (by rw [hl]; omega)
    rw [hl] at h4
    have hl2 : (sub.map It.kids ++ (its.map It.kids ++ rest)).length = sub.length + (its.length + rest.length) := by simp
    have hfew := h4.lay.few
    have hst := h4.lay.steps n (n - (sub.length + (its.length + rest.length))) (Es ++ (El ++ Er)) (El ++ Er) (by omega) (by omega) (by rw [show n - (its.length + rest.length) - sub.length - (n - (sub.length + (its.length + rest.length))) = 0 by omega]; rfl)
    refine ⟨(n - (its.length + rest.length)) :: (Es ++ El), listText us :: (Tt ++ Tl), ?_, ?_⟩
    · simp only [List.map_cons, List.map_append, List.cons_append, List.append_assoc, endsF]
      rw [h3]
      simp only
      rw [if_neg (by omega), hl2]
      rw [show n - (its.length + rest.length) - sub.length = n - (sub.length + (its.length + rest.length)) by omega] at hst
      rw [Int.toNat_natCast, hst]
      simp only
      congr 2
      omega
    · have e1 : n - rest.length - (sub.length + its.length + 1) + 1 = n - (its.length + rest.length) - sub.length := by omega
      have e2 : n - rest.length - (sub.length + its.length + 1) + 1 + sub.length = n - rest.length - its.length := by omega
      have := Bush.list (a := n - rest.length - (sub.length + its.length + 1)) (pos := pos) (by rw [e1]; exact h4) (by rw [e2]; exact h2)
      rw [e2] at this
      rw [List.length_cons, List.length_append, show n - (its.length + rest.length) = n - rest.length - its.length by omega]
      exact this

/-- item i begins a tree that is d deep at most: E: the ends, X: the texts, of the whole list -/
inductive Tree (its : List It) (E : List Nat) (X : List (List UInt8)) : Nat → Nat → Prop
  | leaf {d i : Nat} {kind pos : Int} {text : ByteArray} (hi : its[i]? = some ⟨kind, text, 0, pos⟩) (hk : leafOk kind text.data.toList = true) (he : E.getD i 0 = i + 1) (hx : X.getD i [] = leafText kind text.data.toList) : Tree its E X d i
  | list {d i k : Nat} {pos : Int} (hi : its[i]? = some ⟨5, ⟨#[]⟩, k, pos⟩) (hl : (trail E (i + 1) (E.getD i 0)).length = k) (hs : ∀ j ∈ trail E (i + 1) (E.getD i 0), Tree its E X d j) (hb : ∀ j ∈ trail E (i + 1) (E.getD i 0), E.getD j 0 ≤ E.getD i 0) (he : i < E.getD i 0 ∧ E.getD i 0 ≤ its.length) (hx : X.getD i [] = listText ((trail E (i + 1) (E.getD i 0)).map fun j => X.getD j [])) : Tree its E X (d + 1) i

theorem drop_headX {A : List (List UInt8)} {j : Nat} {x : List UInt8} {l : List (List UInt8)} (h : A.drop j = x :: l) : A.getD j [] = x ∧ A.drop (j + 1) = l := by
  have h1 : A[j]? = some x := by
    have := congrArg (fun l => l[0]?) h
    simpa using this
  refine ⟨by rw [List.getD_eq_getElem?_getD, h1]; rfl, ?_⟩
  have := congrArg (List.drop 1) h
  rwa [List.drop_drop] at this
theorem drop_headI {A : List It} {j : Nat} {x : It} {l : List It} (h : A.drop j = x :: l) : A[j]? = some x ∧ A.drop (j + 1) = l := by
  have h1 : A[j]? = some x := by
    have := congrArg (fun l => l[0]?) h
    simpa using this
  refine ⟨h1, ?_⟩
  have := congrArg (List.drop 1) h
  rwa [List.drop_drop] at this

/-- the roots of a stretch of the list are trees, and their texts are the stretch's -/
theorem Bush.trees {d a : Nat} {seg : List It} {El : List Nat} {Tl ts : List (List UInt8)} (h : Bush d a seg El Tl ts) : ∀ (its : List It) (E : List Nat) (X : List (List UInt8)) (pi : List It) (pe : List Nat) (px : List (List UInt8)), (∀ j, j < its.length → j < E.getD j 0) →
    its.drop a = seg ++ pi → E.drop a = El ++ pe → X.drop a = Tl ++ px → a + seg.length ≤ its.length →
    (∀ j ∈ trail E a (a + seg.length), Tree its E X d j ∧ E.getD j 0 ≤ a + seg.length) ∧ (trail E a (a + seg.length)).map (fun j => X.getD j []) = ts := by
  induction h with
  | nil d a =>
    intro its E X pi pe px hE _ _ _ _
    rw [List.length_nil, Nat.add_zero, trail_stop (by omega)]
    exact ⟨by simp, rfl⟩
  | @leaf d a kind pos text r Er Tr ts hk h ih =>
    intro its E X pi pe px hE hI hA hX hn
    simp only [List.length_cons] at hn ⊢
    obtain ⟨i1, i2⟩ := drop_headI hI
    obtain ⟨e1, e2⟩ := drop_head hA
    obtain ⟨x1, x2⟩ := drop_headX hX
    obtain ⟨g1, g2⟩ := ih its E X pi pe px hE i2 e2 x2 (by omega)
    have hc : trail E a (a + (r.length + 1)) = a :: trail E (a + 1) (a + 1 + r.length) := by
      rw [trail_step (fun j hj => hE j (by omega)) (by omega) e1]; congr 2; omega
    rw [hc]
    refine ⟨fun j hj => ?_, ?_⟩
    · rw [List.mem_cons] at hj
      rcases hj with rfl | hj
      · exact ⟨.leaf i1 hk e1 x1, by omega⟩
      · have := g1 j hj
        exact ⟨this.1, by omega⟩
    · rw [List.map_cons, g2, x1]
  | @list d a pos sub r Es Er Tt Tr us ts hs h ih1 ih2 =>
    intro its E X pi pe px hE hI hA hX hn
    simp only [List.length_cons, List.length_append] at hn ⊢
    obtain ⟨i1, i2⟩ := drop_headI hI
    obtain ⟨e1, e2⟩ := drop_head hA
    obtain ⟨x1, x2⟩ := drop_headX hX
    have hl := hs.lay.len
    have htl := hs.tlen
    obtain ⟨g1, g2⟩ := ih1 its E X (r ++ pi) (Er ++ pe) (Tr ++ px) hE (i2.trans (List.append_assoc _ _ _)) (e2.trans (List.append_assoc _ _ _)) (x2.trans (List.append_assoc _ _ _)) (by omega)
    obtain ⟨f1, f2⟩ := ih2 its E X pi pe px hE
      (by have := congrArg (List.drop sub.length) (i2.trans (List.append_assoc sub r pi)); rw [List.drop_drop, List.drop_left] at this; exact this)
      (by have := congrArg (List.drop sub.length) (e2.trans (List.append_assoc Es Er pe)); rw [List.drop_drop, ← hl, List.drop_left] at this; rw [← hl]; exact this)
      (by have := congrArg (List.drop sub.length) (x2.trans (List.append_assoc Tt Tr px)); rw [List.drop_drop, ← htl, List.drop_left] at this; rw [← htl]; exact this)
      (by omega)
    have hc : trail E a (a + (sub.length + r.length + 1)) = a :: trail E (a + 1 + sub.length) (a + 1 + sub.length + r.length) := by
      rw [trail_step (fun j hj => hE j (by omega)) (by omega) e1]; congr 2; omega
    rw [hc]
    refine ⟨fun j hj => ?_, ?_⟩
    · rw [List.mem_cons] at hj
      rcases hj with rfl | hj
      · refine ⟨.list i1 ?_ (fun q hq => ?_) (fun q hq => ?_) ?_ ?_, by omega⟩
        · rw [e1, ← g2, List.length_map]
        · rw [e1] at hq; exact (g1 q hq).1
        · rw [e1] at hq ⊢; exact (g1 q hq).2
        · rw [e1]; exact ⟨by omega, by omega⟩
        · rw [x1, e1, g2]
      · have := f1 j hj
        exact ⟨this.1, by omega⟩
    · rw [List.map_cons, f2, x1]
end Go.Proofs.YtmmohhaolgblkaaDoor

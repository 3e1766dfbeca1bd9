/- The sorts of a node's children. -/
import Derived.Test.YthefknoicelhaaaGreatDoorFUF
import Derived.Deep.AppendLies
import Derived.Test.YthefknoicelhaaaGreatDoorFLS
namespace Go.Proofs.YthefknoicelhaaaGreatDoor.Se
open Go.RowKit

def intsI (l : List Int) : List Value := l.map fun n : Int => Value.int .i64 n
/-- the sorts of the children of node i -/
def kidsS (E : List Nat) (S : List Int) (i : Nat) : List Int := (trail E (i + 1) (E.getD i 0)).map (S.getD · 0)
section
set_option maxHeartbeats 4000000
set_option maxRecDepth 100000
theorem kidSorts_any (ae az : Option Addr) (ge gs ce cs : Nat) (E : List Nat) (S : List Int) (i : Nat) (w : World) (hn : E.length ≤ 1000000) (hS : S.length = E.length) (hae : E.length ≠ 0 → ae = some ⟨ge, 0, none⟩) (haz : E.length ≠ 0 → az = some ⟨gs, 0, none⟩)
    (hge : ge < w.heap.size) (hgs : gs < w.heap.size) (hcE : ∀ t (h : t < E.length), w.cell? ⟨ge, t, none⟩ = some (.int .i64 E[t])) (hcS : ∀ t, t < E.length → w.cell? ⟨gs, t, none⟩ = some (.int .i64 (S.getD t 0)))
    (hi' : i < E.length) (hup : ∀ j, j < E.length → j < E.getD j 0) (hmost : ∀ j, j < E.length → E.getD j 0 ≤ E.length) :
    Calls Tryz.prog 80 #[.agg #[.slice ae E.length ce, .slice az E.length cs], .int .i64 i] w fun e w' => ∃ v, e = .returned v ∧ w'.ownsRow w.heap.size 3 1 v (kidsS E S i).length (intsI (kidsS E S i)) ∧ Below w.heap.size w w' := by
  obtain ⟨i0, hi, hz0, hz1, hz2⟩ := info_parts infoInt
  obtain rfl := hae (by omega)
  obtain rfl := haz (by omega)
  have hbw : Below w.heap.size w (w.alloc (.cells #[.slice (some ⟨ge, 0, none⟩) E.length ce, .slice (some ⟨gs, 0, none⟩) E.length cs] 87)) := (Below.refl _ _).alloc (Nat.le_refl _) _
  have c0 : (w.alloc (.cells #[.slice (some ⟨ge, 0, none⟩) E.length ce, .slice (some ⟨gs, 0, none⟩) E.length cs] 87)).cell? ⟨w.heap.size, 0, none⟩ = some (.slice (some ⟨ge, 0, none⟩) E.length ce) := by rw [World.cell?_alloc_at _ _ _ _ rfl]; rfl
  have c1 : (w.alloc (.cells #[.slice (some ⟨ge, 0, none⟩) E.length ce, .slice (some ⟨gs, 0, none⟩) E.length cs] 87)).cell? ⟨w.heap.size, 1, none⟩ = some (.slice (some ⟨gs, 0, none⟩) E.length cs) := by rw [World.cell?_alloc_at _ _ _ _ rfl]; rfl
  have hl : w.heap.size + 1 ≤ (w.alloc (.cells #[.slice (some ⟨ge, 0, none⟩) E.length ce, .slice (some ⟨gs, 0, none⟩) E.length cs] 87)).heap.size := by simp
  have HCE : Hid (∀ t, t < E.length → (w.alloc (.cells #[.slice (some ⟨ge, 0, none⟩) E.length ce, .slice (some ⟨gs, 0, none⟩) E.length cs] 87)).cell? ⟨ge, t, none⟩ = some (.int .i64 (E.getD t 0 : Nat))) := Lib.hid fun t h => (hbw.cell (p := ⟨ge, t, none⟩) hge).trans ((hcE t h).trans (by rw [List.getD_eq_getElem?_getD, List.getElem?_eq_getElem h]; rfl))
  have HCS := Lib.hid fun t (h : t < E.length) => (hbw.cell (p := ⟨gs, t, none⟩) hgs).trans (hcS t h)
  have HUP := Lib.hid hup
  have HMO := Lib.hid hmost
  have HBW := Lib.hid hbw
  have HL : Hid (kidsS E S i = (trail E (i + 1) (E.getD i 0)).map (S.getD · 0)) := Lib.hid rfl
  have hum := hmost i hi'
  clear hcE hcS hup hmost hbw haz hae
  go_enter Tryz.func80, Tryz.ntmps80
  go_wp2
  generalize w.alloc (.cells #[.slice (some ⟨ge, 0, none⟩) E.length ce, .slice (some ⟨gs, 0, none⟩) E.length cs] 87) = wz at *
  generalize hB : w.heap.size = B at *
  have HBe := Lib.hid hB
  clear hB
  generalize hu : E.getD i 0 = u at *
  have HU := Lib.hid hu
  clear hu
  generalize hn' : E.length = n at *
  have HN := Lib.hid hn'
  have HS := Lib.hid hS
  clear hn' hS
  go_loopw [5, 6] (fun l k wr => ∃ (q : Nat) (acc : List Int), k = .int .i64 q ∧ q ≤ 1000001 ∧ wr.ownsRow (B + 1) 3 1 l acc.length (intsI acc) ∧ Below (B + 1) wz wr ∧ acc ++ (trail E q u).map (S.getD · 0) = kidsS E S i ∧ acc.length ≤ q)
    (fun _ k _ => u - (intOf k).toNat)
  case atStart => exact ⟨i + 1, [], by go_num, by omega, World.ownsRow_nil _ _ _ _, Below.refl _ _, by rw [HL.out]; rfl, Nat.zero_le _⟩
  case round =>
    obtain ⟨q, acc, rfl, hq, hown, hbel, hch, hal⟩ := hrel
    have HO := Lib.hid hown
    have HB := Lib.hid hbel
    have HH := Lib.hid hch
    have hbs := hbel.size
    have hszr : B + 1 ≤ wr.heap.size := Nat.le_trans hl hbel.size
    have d0 := (hbel.cell (p := ⟨B, 0, none⟩) (Nat.lt_succ_self B)).trans c0
    have d1 := (hbel.cell (p := ⟨B, 1, none⟩) (Nat.lt_succ_self B)).trans c1
    have di : wr.cell? ⟨ge, i, none⟩ = some (.int .i64 u) := by
      rw [(hbel.cell (p := ⟨ge, i, none⟩) (by show ge < B + 1; omega)).trans (HCE.out i hi'), HU.out]
    clear hown hbel hch
    by_cases hlt : q < u
    · have hqE : q < n := by omega
      have hst := trail_step (E := E) (i := q) (up1 := u) (fun j hj => HUP.out j (by omega)) hlt rfl
      have h1 := HUP.out q hqE
      have h2 := HMO.out q hqE
      have hce := (HB.out.cell (p := ⟨ge, q, none⟩) (by show ge < B + 1; omega)).trans (HCE.out q hqE)
      have hcs := (HB.out.cell (p := ⟨gs, q, none⟩) (by show gs < B + 1; omega)).trans (HCS.out q hqE)
      have HH2 : Hid ((acc ++ [S.getD q 0]) ++ (trail E (E.getD q 0) u).map (S.getD · 0) = kidsS E S i) := Lib.hid (by rw [← HH.out, hst]; simp)
      clear hst
      generalize E.getD q 0 = x at *
      generalize S.getD q 0 = y at *
      go_wp2_with (at_builtin; refine wpList_append_own _ rfl (.tmp 21) (.tmp 27) 23 rfl (B + 1) 3 i0 (.int .i64 0) 1 8 Tryz.underlying23 hi hz0 hz1 hz2 rfl (by decide) _ acc.length _ rfl (HO.out.alloc _) ⟨wr.heap.size, 0, none⟩ 1 1 [.int .i64 y] rfl rfl (World.news_of_block (cs := #[.int .i64 y]) (t := 3) (fr := (0, 0)) (heap_alloc_new wr _)) (by simp [Value.oneCell']) (by unfold maxLen; omega) (by omega) (by simp; omega) ?_)
      intro v' w2 hown' hgrow _
      have hk2 : ∀ (p : Addr) (v : Value), p.block < B + 1 → wr.cell? p = some v → w2.cell? p = some v := fun p v hp hv => by
        refine hgrow.cell ((World.cell?_alloc_lt wr _ p (Nat.lt_of_lt_of_le hp hszr)).trans hv) (fun e => ?_)
        have := (HO.out.lt p.block e.symm).1
        omega
      have f0 := hk2 ⟨B, 0, none⟩ _ (Nat.lt_succ_self B) d0
      have f1 := hk2 ⟨ge, q, none⟩ _ (by show ge < B + 1; omega) hce
      have HB2 := Lib.hid (((HB.out.alloc hszr _).grown hgrow (by simp; omega) (fun q hq => (HO.out.lt q hq).1)))
      obtain ⟨g3, c3, rfl, _⟩ := ownsRow_shape hown' (by omega)
      have HO3 : Hid (w2.ownsRow (B + 1) 3 1 (.slice (some ⟨g3, 0, none⟩) (acc.length + 1) c3) (acc ++ [y]).length (intsI (acc ++ [y]))) := Lib.hid (by
        rw [List.length_append, List.length_singleton]; simpa [intsI] using hown')
      clear hown' hgrow
      go_wp2
      go_roundw
      case rel => exact ⟨x, acc ++ [y], rfl, by omega, HO3.out, HB2.out, HH2.out, by rw [List.length_append, List.length_singleton]; omega⟩
      case measure => simp [intOf]; omega
    · have HF : Hid (acc = kidsS E S i) := Lib.hid (by rw [← HH.out, trail_stop hlt]; simp)
      go_wp2
      go_ret
      exact ⟨_, rfl, by rw [← HF.out, HBe.out]; exact ownsRow_mono HO.out (Nat.le_succ B), by rw [HBe.out]; exact HBW.out.trans (HB.out.mono (Nat.le_succ B))⟩
end
end Go.Proofs.YthefknoicelhaaaGreatDoor.Se
/- Plain facts about ends: how many children a node has. -/
namespace Go.Proofs.YthefknoicelhaaaGreatDoor.Se
open Go.RowKit

theorem steps_trail {n base : Nat} {E E' : List Nat} (hE' : ∀ e, base ≤ e → E'.getD (e - base) 0 = E.getD e 0) (hb : ∀ t (h : t < E'.length), base + t < E'[t] ∧ E'[t] ≤ n) (hl : base + E'.length = n) (hup : ∀ j, j < n → j < E.getD j 0) :
    ∀ (k e e' : Nat), base ≤ e → e ≤ n → stepsE n base E' k e = some e' → (trail E e e').length = k := by
  intro k
  induction k with
  | zero => intro e e' _ _ h; simp only [stepsE] at h; cases h; rw [trail_stop (by omega)]; rfl
  | succ k ih =>
    intro e e' h1 h2 h
    have hbd := stepsE_bd n base E' hb hl (k + 1) e e' h1 h2 h
    simp only [stepsE] at h
    split at h
    · cases h
    · rename_i hne
      have hlt : e - base < E'.length := by omega
      have hb1 := hb (e - base) hlt
      have hg := hE' e h1
      have hg' : E'.getD (e - base) 0 = E'[e - base] := by rw [List.getD_eq_getElem?_getD, List.getElem?_eq_getElem hlt]; rfl
      have hbd2 := stepsE_bd n base E' hb hl k _ e' (by rw [hg']; omega) (by rw [hg']; omega) h
      have hup1 := hup e (by omega)
      rw [hg] at h hbd2
      rw [trail_step (fun j hj => hup j (by omega)) (by omega) rfl, List.length_cons, ih _ e' (by omega) (by rw [← hg, hg']; omega) h]
theorem ends_steps (n : Nat) : ∀ (ks : List Int) (E : List Nat), ks.length ≤ n → endsF n ks = some E → ∀ t, t < ks.length → 0 ≤ ks.getD t 0 ∧ stepsE n (n - ks.length + t + 1) (E.drop (t + 1)) (ks.getD t 0).toNat (n - ks.length + t + 1) = some (E.getD t 0) := by
  intro ks
  induction ks with
  | nil => intro E _ _ t ht; simp at ht
  | cons k ks ih =>
    intro E hl h t ht
    simp only [List.length_cons] at hl ht
    simp only [endsF] at h
    cases e : endsF n ks with
    | none => rw [e] at h; cases h
    | some E' =>
      rw [e] at h
      simp only at h
      split at h
      · cases h
      · rename_i hk
        cases e2 : stepsE n (n - ks.length) E' k.toNat (n - ks.length) with
        | none => rw [e2] at h; cases h
        | some e' =>
          rw [e2] at h
          cases h
          cases t with
          | zero =>
            have h1 : n - (k :: ks).length + 0 + 1 = n - ks.length := by simp only [List.length_cons]; omega
            rw [h1]
            exact ⟨by show 0 ≤ k; omega, e2⟩
          | succ t =>
            have := ih E' (by omega) e t (by omega)
            have h1 : n - (k :: ks).length + (t + 1) + 1 = n - ks.length + t + 1 := by simp only [List.length_cons]; omega
            rw [h1]
            exact this
/-- node j has as many children as it says -/
theorem kids_len {n : Nat} {ks : List Int} {E : List Nat} (hl : ks.length = n) (h : endsF n ks = some E) : E.length = n ∧ (∀ j, j < n → j < E.getD j 0) ∧ (∀ j, j < n → E.getD j 0 ≤ n) ∧ ∀ j, j < n → 0 ≤ ks.getD j 0 ∧ ((trail E (j + 1) (E.getD j 0)).length : Int) = ks.getD j 0 := by
  obtain ⟨b1, b2⟩ := endsF_bd n ks E (by omega) h
  have hE : E.length = n := by omega
  have hup : ∀ j, j < n → j < E.getD j 0 := fun j hj => by
    have := b2 j (by omega)
    rw [List.getD_eq_getElem?_getD, List.getElem?_eq_getElem (by omega)]
    simp only [Option.getD_some]; omega
  have hmo : ∀ j, j < n → E.getD j 0 ≤ n := fun j hj => by
    have := b2 j (by omega)
    rw [List.getD_eq_getElem?_getD, List.getElem?_eq_getElem (by omega)]
    simp only [Option.getD_some]; omega
  refine ⟨hE, hup, hmo, fun j hj => ?_⟩
  obtain ⟨h1, h2⟩ := ends_steps n ks E (by omega) h j (by omega)
  rw [show n - ks.length + j + 1 = j + 1 by omega] at h2
  refine ⟨h1, ?_⟩
  rw [steps_trail (E' := E.drop (j + 1)) (base := j + 1) (fun e he => ?_) (fun t ht => ?_) (by rw [List.length_drop]; omega) hup (ks.getD j 0).toNat (j + 1) _ (Nat.le_refl _) (by omega) h2]
  · omega
  · rw [List.getD_eq_getElem?_getD, List.getElem?_drop, List.getD_eq_getElem?_getD, show j + 1 + (e - (j + 1)) = e by omega]
  · rw [List.length_drop] at ht
    rw [List.getElem_drop]
    have := b2 (j + 1 + t) (by omega)
    omega
end Go.Proofs.YthefknoicelhaaaGreatDoor.Se
/- TermEnds at any list of nodes. -/
namespace Go.Proofs.YthefknoicelhaaaGreatDoor.Se
open Go.RowKit

section
set_option maxHeartbeats 4000000
set_option maxRecDepth 100000
theorem termEnds_any (ao : Option Addr) (g cap : Nat) (ts : List Nd) (w : World) (hn : ts.length ≤ 1000000) (hao : ts.length ≠ 0 → ao = some ⟨g, 0, none⟩) (hg : g < w.heap.size) (hc : NodesAt w g ts) :
    Calls Tryz.prog 76 #[.slice ao ts.length cap] w (EndsPost w ts.length (ts.map Nd.kids)) := by
  have hbw : Below w.heap.size w (w.alloc (.cells #[.slice ao ts.length cap] 26)) := (Below.refl _ _).alloc (Nat.le_refl _) _
  have hcl : (w.alloc (.cells #[.slice ao ts.length cap] 26)).cell? ⟨w.heap.size, 0, none⟩ = some (.slice ao ts.length cap) := by rw [World.cell?_alloc_at _ _ _ _ rfl]; rfl
  have hsz : w.heap.size < (w.alloc (.cells #[.slice ao ts.length cap] 26)).heap.size := by simp
  have hgz : g < (w.alloc (.cells #[.slice ao ts.length cap] 26)).heap.size := Nat.lt_trans hg hsz
  have hends := endsT w.heap.size g cap ts.length (ts.map Nd.kids) _ (by omega) (by simp) hsz hgz (fun h0 => by rw [hcl, hao h0])
    (fun i h => by
      have hi : i < ts.length := by simpa using h
      have := (hc.below hbw hg) i ts[i] (List.getElem?_eq_getElem hi) 4 (by omega)
      rw [this, List.getElem_map]; rfl)
  have HB := Lib.hid hbw
  clear hbw hcl hc hao hgz
  go_enter Tryz.func76, Tryz.ntmps76
  go_wp2_with fail
  generalize w.alloc (.cells #[.slice ao ts.length cap] 26) = wz at *
  refine hends.mono ?_
  unfold EndsPost
  cases he : endsF ts.length (ts.map Nd.kids) with
  | none =>
    rintro e w2 ⟨hb2, rfl⟩
    have HB2 := Lib.hid hb2
    have HE := Lib.hid he
    clear hb2 he hends
    go_wp2
    go_ret2
    exact EndsPost.none_of (HB.out.trans (HB2.out.mono HB.out.size)) HE.out
  | some E =>
    rintro e w2 ⟨hb2, v, rfl, ho2⟩
    have HB2 := Lib.hid hb2
    have HO := Lib.hid ho2
    have HE := Lib.hid he
    clear hb2 he hends ho2
    go_wp2
    go_ret2
    exact EndsPost.some_of (HB.out.trans (HB2.out.mono HB.out.size)) HE.out (ownsRow_mono HO.out HB.out.size)
end
end Go.Proofs.YthefknoicelhaaaGreatDoor.Se
/- The text of a number. -/
namespace Go.Proofs.YthefknoicelhaaaGreatDoor.Se
open Go.RowKit Nmx

end Go.Proofs.YthefknoicelhaaaGreatDoor.Se

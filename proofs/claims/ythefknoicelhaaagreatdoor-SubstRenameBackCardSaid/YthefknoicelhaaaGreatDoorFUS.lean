/- Valid and SortOf, over what namesAgree answers. -/
import Derived.Test.YthefknoicelhaaaGreatDoorFUK
import Derived.Test.YthefknoicelhaaaGreatDoorFUQ
namespace Go.Proofs.YthefknoicelhaaaGreatDoor.Se
open Go.RowKit Nmx

/-- whether a list of nodes is a term -/
def vdF (na : List Nat → List Int → Bool) (ts : List Nd) : Bool := match shp ts with | none => false | some (E, S) => na E S
/-- its sort -/
def soF (na : List Nat → List Int → Bool) (ts : List Nd) : Int := match shp ts with | none => 0 | some (E, S) => if na E S then S.getD 0 0 else 0
section
set_option maxHeartbeats 4000000
set_option maxRecDepth 100000
/-- what check answers, as Valid passes it on -/
theorem valid_of {na : List Nat → List Int → Bool} {ao : Option Addr} {n cap : Nat} {ts : List Nd} {w : World}
    (h : Calls Tryz.prog 54 #[.slice ao n cap] w (ChkPost na ts w)) :
    Calls Tryz.prog 27 #[.slice ao n cap] w fun e w' => e = .returned (.bool (vdF na ts)) ∧ Below w.heap.size w w' := by
  go_enter Tryz.func27, Tryz.ntmps27
  go_wp2_with fail
  refine h.mono ?_
  rintro e w2 ⟨hb2, a1, a2, n1, c1, n2, c2, b, rfl, hm⟩
  have HB := Lib.hid hb2
  have HM : Hid (b = vdF na ts) := Lib.hid (by
    unfold vdF
    cases hs : shp ts with
    | none => rw [hs] at hm; exact hm
    | some x => obtain ⟨E, S⟩ := x; rw [hs] at hm; exact hm.1)
  clear hb2 hm h
  go_wp2
  go_ret
  exact ⟨by rw [← HM.out]; rfl, HB.out.alloc HB.out.size _⟩

end
end Go.Proofs.YthefknoicelhaaaGreatDoor.Se
/- What namesAgree answers: names in use, plain part. -/
namespace Go.Proofs.YthefknoicelhaaaGreatDoor.Se
open Go.RowKit Nmx

def lookA {β : Type} (k : ByteArray) : List (ByteArray × β) → Option β
  | [] => none
  | p :: l => if k = p.1 then some p.2 else lookA k l
def putA {β : Type} (k : ByteArray) (v : β) : List (ByteArray × β) → List (ByteArray × β)
  | [] => [(k, v)]
  | p :: l => if k = p.1 then (k, v) :: l else p :: putA k v l
def asI (V : List (ByteArray × Int)) : List (ByteArray × Value) := V.map fun p => (p.1, Value.int .i64 p.2)
theorem findI_none {k : ByteArray} : ∀ {V : List (ByteArray × Int)} (i : Nat), lookA k V = none → findS k (asI V) i = none := by
  intro V
  induction V with
  | nil => intro i _; rfl
  | cons p V ih =>
    intro i h
    unfold lookA at h
    show (if k = p.1 then some (i, Value.int .i64 p.2) else findS k (asI V) (i + 1)) = none
    by_cases hk : k = p.1
    · rw [if_pos hk] at h; cases h
    · rw [if_neg hk] at h ⊢; exact ih _ h
theorem findI_some {k : ByteArray} {v : Int} : ∀ {V : List (ByteArray × Int)} (i : Nat), lookA k V = some v → ∃ j, findS k (asI V) i = some (j, .int .i64 v) := by
  intro V
  induction V with
  | nil => intro i h; cases h
  | cons p V ih =>
    intro i h
    unfold lookA at h
    show ∃ j, (if k = p.1 then some (i, Value.int .i64 p.2) else findS k (asI V) (i + 1)) = some (j, .int .i64 v)
    by_cases hk : k = p.1
    · rw [if_pos hk] at h ⊢; exact ⟨i, by rw [Option.some.inj h]⟩
    · rw [if_neg hk] at h ⊢; exact ih _ h
theorem putI (k : ByteArray) (v : Int) : ∀ V : List (ByteArray × Int), putS k (.int .i64 v) (asI V) = asI (putA k v V) := by
  intro V
  induction V with
  | nil => rfl
  | cons p V ih =>
    show (if k = p.1 then (k, Value.int .i64 v) :: asI V else (p.1, Value.int .i64 p.2) :: putS k (.int .i64 v) (asI V)) = asI (if k = p.1 then (k, v) :: V else p :: putA k v V)
    by_cases hk : k = p.1
    · rw [if_pos hk, if_pos hk]; rfl
    · rw [if_neg hk, if_neg hk, ih]; rfl

/-- a slice that reads as a row that is not empty -/
def RowV (w : World) (v : Value) (l : List Int) : Prop := ∃ g cap, v = .slice (some ⟨g, 0, none⟩) l.length cap ∧ RowI w (some ⟨g, 0, none⟩) g l ∧ 0 < l.length
theorem RowV.far {w w' : World} {v : Value} {l : List Int} (h : RowV w v l) (hb : Below w.heap.size w w') : RowV w' v l :=
  let ⟨g, c, h1, h2, h3⟩ := h; ⟨g, c, h1, h2.far hb, h3⟩
theorem RowV.grown {w w' : World} {v : Value} {l : List Int} {B : Nat} {kvs : List (ByteArray × Value)} (h : RowV w v l) (hm : MapS w B kvs) (hg : w.grownBy w' (some B)) : RowV w' v l := by
  obtain ⟨g, c, h1, h2, h3⟩ := h
  have hne : some g ≠ some B := by
    intro e
    cases e
    obtain ⟨es, cl, hh, -⟩ := hm
    have := h2.cell 0 h3
    simp [World.cell?, hh] at this
  have hcell : ∀ t, w'.cell? ⟨g, t, none⟩ = w.cell? ⟨g, t, none⟩ := fun t => World.cell?_of_block (hg.block g h2.lt hne)
  exact ⟨g, c, h1, ⟨h2.at0, Nat.lt_of_lt_of_le h2.lt hg.size, h2.few, fun t ht => (hcell t).trans (h2.cell t ht)⟩, h3⟩
def FRel (w : World) : List (ByteArray × Value) → List (ByteArray × List Int) → Prop
  | [], [] => True
  | p :: k, q :: f => p.1 = q.1 ∧ RowV w p.2 q.2 ∧ FRel w k f
  | _, _ => False
theorem FRel.mono {w w' : World} (hm : ∀ v l, RowV w v l → RowV w' v l) : ∀ {k : List (ByteArray × Value)} {f : List (ByteArray × List Int)}, FRel w k f → FRel w' k f
  | [], [], _ => trivial
  | _ :: _, _ :: _, h => ⟨h.1, hm _ _ h.2.1, FRel.mono hm h.2.2⟩
  | [], _ :: _, h => h.elim
  | _ :: _, [], h => h.elim
theorem FRel.none {w : World} {s : ByteArray} : ∀ {k : List (ByteArray × Value)} {f : List (ByteArray × List Int)} (i : Nat), FRel w k f → lookA s f = none → findS s k i = none
  | [], [], _, _, _ => rfl
  | p :: k, q :: f, i, h, hl => by
    unfold lookA at hl
    unfold findS
    rw [h.1]
    by_cases hk : s = q.1
    · rw [if_pos hk] at hl; cases hl
    · rw [if_neg hk] at hl ⊢; exact FRel.none _ h.2.2 hl
  | [], _ :: _, _, h, _ => h.elim
  | _ :: _, [], _, h, _ => h.elim
theorem FRel.some {w : World} {s : ByteArray} {l : List Int} : ∀ {k : List (ByteArray × Value)} {f : List (ByteArray × List Int)} (i : Nat), FRel w k f → lookA s f = some l → ∃ j v, findS s k i = some (j, v) ∧ RowV w v l
  | [], [], _, _, h => by cases h
  | p :: k, q :: f, i, h, hl => by
    unfold lookA at hl
    unfold findS
    rw [h.1]
    by_cases hk : s = q.1
    · rw [if_pos hk] at hl ⊢; exact ⟨i, p.2, rfl, by rw [← Option.some.inj hl]; exact h.2.1⟩
    · rw [if_neg hk] at hl ⊢; exact FRel.some _ h.2.2 hl
  | [], _ :: _, _, h, _ => h.elim
  | _ :: _, [], _, h, _ => h.elim
theorem FRel.put {w : World} {s : ByteArray} {v : Value} {l : List Int} (hv : RowV w v l) : ∀ {k : List (ByteArray × Value)} {f : List (ByteArray × List Int)}, FRel w k f → FRel w (putS s v k) (putA s l f)
  | [], [], _ => ⟨rfl, hv, trivial⟩
  | p :: k, q :: f, h => by
    unfold putS putA
    rw [h.1]
    by_cases hk : s = q.1
    · rw [if_pos hk, if_pos hk]; exact ⟨rfl, hv, h.2.2⟩
    · rw [if_neg hk, if_neg hk]; exact ⟨h.1, h.2.1, FRel.put hv h.2.2⟩
  | [], _ :: _, h => h.elim
  | _ :: _, [], h => h.elim
/-- the names in use: the variables with their sorts, the functions with theirs; none where one is used in two ways -/
def nagF (E : List Nat) (S : List Int) : List Nd → Nat → List (ByteArray × Int) → List (ByteArray × List Int) → Option (List (ByteArray × Int) × List (ByteArray × List Int))
  | [], _, V, F => some (V, F)
  | x :: ts, i, V, F =>
    if x.op = 4 then (if (lookA x.name V).all (· == x.sort) then nagF E S ts (i + 1) (putA x.name x.sort V) F else none)
    else if x.op = 5 then (if (lookA x.name F).all (· == kidsS E S i ++ [x.sort]) then nagF E S ts (i + 1) V (putA x.name (kidsS E S i ++ [x.sort]) F) else none)
    else nagF E S ts (i + 1) V F
/-- whether every name is used in one way -/
def naF (ts : List Nd) (E : List Nat) (S : List Int) : Bool :=
  match nagF E S ts 0 [] [] with
  | none => false
  | some (V, _) => ts.all fun x => !(x.op == 5 && (lookA x.name V).isSome)
end Go.Proofs.YthefknoicelhaaaGreatDoor.Se
/- namesAgree. -/
namespace Go.Proofs.YthefknoicelhaaaGreatDoor.Se
open Go.RowKit Nmx

theorem alloc_far' (w : World) (o : Obj) : Below w.heap.size w (w.alloc o) := (Below.refl _ _).alloc (Nat.le_refl _) _
/-- what every world of the walk keeps: the shape's box, the two maps -/
structure NM (S : Nat) (w : World) (a1 : Option Addr) (n1 c1 : Nat) (a2 : Option Addr) (n2 c2 : Nat) (V : List (ByteArray × Int)) (F : List (ByteArray × List Int)) (W : World) : Prop where
  bx : W.heap[S]? = some (.cells #[.slice a1 n1 c1, .slice a2 n2 c2] 87 (0, 0))
  mv : MapS W (S + 1) (asI V)
  mf : ∃ kvs, MapS W (S + 1 + 1) kvs ∧ FRel W kvs F
  bel : Below S w W
  le : S ≤ W.heap.size
theorem NM.far {S : Nat} {w W W' : World} {a1 a2 : Option Addr} {n1 c1 n2 c2 : Nat} {V : List (ByteArray × Int)} {F : List (ByteArray × List Int)} (h : NM S w a1 n1 c1 a2 n2 c2 V F W) (hb : Below W.heap.size W W') : NM S w a1 n1 c1 a2 n2 c2 V F W' :=
  ⟨(hb.block _ (lt_of_heap h.bx)).trans h.bx, h.mv.far hb, let ⟨k, h1, h2⟩ := h.mf; ⟨k, h1.far hb, h2.mono fun _ _ h => h.far hb⟩, h.bel.trans (hb.mono h.le), Nat.le_trans h.le hb.size⟩
theorem NM.putV {S : Nat} {w W W' : World} {a1 a2 : Option Addr} {n1 c1 n2 c2 : Nat} {V : List (ByteArray × Int)} {F : List (ByteArray × List Int)} {s : ByteArray} {v : Int} (h : NM S w a1 n1 c1 a2 n2 c2 V F W) (hm : MapS W' (S + 1) (putS s (.int .i64 v) (asI V))) (hg : W.grownBy W' (some (S + 1))) : NM S w a1 n1 c1 a2 n2 c2 (putA s v V) F W' := by
  refine ⟨(hg.block _ (lt_of_heap h.bx) (fun e => by have := Option.some.inj e; omega)).trans h.bx, by rw [putI] at hm; exact hm, ?_, h.bel.grown hg h.le (fun k e => by cases e; omega), Nat.le_trans h.le hg.size⟩
  obtain ⟨k, h1, h2⟩ := h.mf
  exact ⟨k, h1.but (hg.block _ h1.lt (fun e => by have := Option.some.inj e; omega)), h2.mono fun _ _ hr => hr.grown h.mv hg⟩
theorem zeroInt (w : World) : (zeroValue 3).run Tryz.prog w = .ok (.int .i64 0) w := by kernel_rfl
theorem zeroInts (w : World) : (zeroValue 23).run Tryz.prog w = .ok (.slice none 0 0) w := by kernel_rfl
theorem nag_no {ts : List Nd} {E : List Nat} {S : List Int} (h : nagF E S ts 0 [] [] = none) : naF ts E S = false := by unfold naF; rw [h]
theorem run_makeMap0 {P : Program} (t : TypeId) (w : World) : (Instr.makeMap t none).run P w = .ok (.map (some w.heap.size)) (w.alloc (.map #[] 0)) := by
  simp [Instr.makeMap, Result.andThen]
section
set_option maxHeartbeats 4000000
set_option maxRecDepth 100000
theorem namesAgree_vars (ao a1 a2 : Option Addr) (g cap n1 c1 n2 c2 : Nat) (ts : List Nd) (E : List Nat) (Ss : List Int) (w : World) (hao : ts.length ≠ 0 → ao = some ⟨g, 0, none⟩) (hg : g < w.heap.size) (hc : NodesAt w g ts) (hl : ts.length ≤ 20000) (hno : ∀ x ∈ ts, ¬ x.op = 5) :
    Calls Tryz.prog 81 #[.slice ao ts.length cap, .agg #[.slice a1 n1 c1, .slice a2 n2 c2]] w fun e w' => e = .returned (.bool (naF ts E Ss)) ∧ Below w.heap.size w w' := by
  have hm1 := @run_makeMap0 Tryz.prog 91
  have hm2 := @run_makeMap0 Tryz.prog 92
  have HC := Lib.hid hc
  have HA := Lib.hid hao
  have HNO := Lib.hid hno
  have hnm : NM w.heap.size w a1 n1 c1 a2 n2 c2 [] [] (((w.alloc (.cells #[.slice a1 n1 c1, .slice a2 n2 c2] 87)).alloc (.map #[] 0)).alloc (.map #[] 0)) := by
    have h1 := alloc_far' w (.cells #[.slice a1 n1 c1, .slice a2 n2 c2] 87)
    have b0 := heap_alloc_new w (.cells #[.slice a1 n1 c1, .slice a2 n2 c2] 87)
    have e1 : (w.alloc (.cells #[.slice a1 n1 c1, .slice a2 n2 c2] 87)).heap.size = w.heap.size + 1 := by simp
    generalize w.alloc (.cells #[.slice a1 n1 c1, .slice a2 n2 c2] 87) = u1 at *
    have h2 := alloc_far' u1 (.map #[] 0)
    have b1 := MapS.made u1
    have e2 : (u1.alloc (.map #[] 0)).heap.size = w.heap.size + 1 + 1 := by simp; omega
    generalize u1.alloc (.map #[] 0) = u2 at *
    have h3 := alloc_far' u2 (.map #[] 0)
    have b2 := MapS.made u2
    rw [e1] at b1
    rw [e2] at b2
    exact ⟨(h3.block _ (by omega)).trans ((h2.block _ (by omega)).trans b0), b1.far h3, ⟨[], b2, trivial⟩, h1.trans ((h2.mono (by omega)).trans (h3.mono (by omega))), Nat.le_trans (by omega) h3.size⟩
  have HNM := Lib.hid hnm
  clear hc hao hno hnm
  go_enter Tryz.func81, Tryz.ntmps81
  go_wp2
  generalize ((w.alloc (.cells #[.slice a1 n1 c1, .slice a2 n2 c2] 87)).alloc (.map #[] 0)).alloc (.map #[] 0) = w1 at *
  generalize hS : w.heap.size = S at *
  have HS := Lib.hid hS
  clear hS hm1 hm2
  go_loopw [22] (fun i wr => ∃ (k : Nat) (V : List (ByteArray × Int)) (F : List (ByteArray × List Int)), k ≤ ts.length ∧ i = .int .i64 k ∧ nagF E Ss (ts.drop k) k V F = nagF E Ss ts 0 [] [] ∧ NM S w a1 n1 c1 a2 n2 c2 V F wr) (fun i _ => ts.length - (intOf i).toNat)
  case atStart => exact ⟨0, [], [], Nat.zero_le _, rfl, rfl, HNM.out⟩
  case round =>
    obtain ⟨k, V, F, hk, rfl, hI, hnm⟩ := hrel
    have HN := Lib.hid hnm
    have HI := Lib.hid hI
    clear hI hnm HNM
    by_cases hlt : k < ts.length
    · obtain rfl := HA.out (by omega)
      have hx : ts[k]? = some ts[k] := List.getElem?_eq_getElem hlt
      have hia : NodesAt wr g ts := HC.out.below HN.out.bel hg
      have c0 := hia k _ hx 0 (by omega)
      have c1' := hia k _ hx 1 (by omega)
      have c2' := hia k _ hx 2 (by omega)
      have c3 := hia k _ hx 3 (by omega)
      have c4 := hia k _ hx 4 (by omega)
      simp only [Nd.cells, List.getElem?_cons_succ, List.getElem?_cons_zero, Nat.add_zero] at c0 c1' c2' c3 c4
      have q5 := HNO.out _ (List.getElem_mem hlt)
      have HST : Hid (nagF E Ss (ts[k] :: ts.drop (k + 1)) k V F = nagF E Ss ts 0 [] []) := Lib.hid (by rw [← List.drop_eq_getElem_cons hlt]; exact HI.out)
      clear hia hx HI
      generalize ts[k] = x at *
      obtain ⟨op, sort, name, num, kids⟩ := x
      simp only at c0 c1' c2' c3 c4 q5
      by_cases q4 : op = 4
      · subst q4
        have HAL := Lib.hid (HN.out.far (alloc_far' wr (.cells #[.int .i64 4, .int .i64 sort, .string name, .string num, .int .i64 kids] 51)))
        cases hv : lookA name V with
        | none =>
          have HF := Lib.hid (findI_none 0 hv)
          have HS2 : Hid (nagF E Ss (ts.drop (k + 1)) (k + 1) (putA name sort V) F = nagF E Ss ts 0 [] []) := Lib.hid (by
            rw [← HST.out]; simp [nagF, hv])
          clear HST hv
          go_wp2_with (first | (at_lookup; go_loud (refine wpList_look_miss rfl 9 3 91 _ _ rfl Tryz.underlying9 Tryz.underlying91 (S + 1) _ rfl HAL.out.mv name rfl _ HF.out (zeroInt _) ?_)) | (at_mapUpdate; go_loud (refine wpList_put_any rfl 9 3 91 _ _ _ rfl Tryz.underlying9 Tryz.underlying91 (S + 1) _ rfl HAL.out.mv name rfl (.int .i64 sort) rfl ?_)))
          intro w2 hm hgr
          have HN2 := Lib.hid (HAL.out.putV hm hgr)
          clear hm hgr c0 c1' c2' c3 c4
          go_wp2_with fail
          go_roundw
          case rel => exact ⟨k + 1, _, F, by omega, by go_num, HS2.out, HN2.out⟩
          case measure => simp [intOf]; omega
        | some v0 =>
          obtain ⟨jf, hjf⟩ := findI_some 0 hv
          have HF := Lib.hid hjf
          clear hjf
          by_cases qs : v0 = sort
          · subst qs
            have HS2 : Hid (nagF E Ss (ts.drop (k + 1)) (k + 1) (putA name v0 V) F = nagF E Ss ts 0 [] []) := Lib.hid (by
              rw [← HST.out]; simp [nagF, hv])
            clear HST hv
            go_wp2_with (first | (at_lookup; go_loud (refine wpList_look_hit rfl 9 3 91 _ _ rfl Tryz.underlying9 Tryz.underlying91 (S + 1) _ rfl HAL.out.mv name rfl jf (.int .i64 v0) HF.out ?_)) | (at_mapUpdate; go_loud (refine wpList_put_any rfl 9 3 91 _ _ _ rfl Tryz.underlying9 Tryz.underlying91 (S + 1) _ rfl HAL.out.mv name rfl (.int .i64 v0) rfl ?_)))
            intro w2 hm hgr
            have HN2 := Lib.hid (HAL.out.putV hm hgr)
            clear hm hgr c0 c1' c2' c3 c4
            go_wp2_with fail
            go_roundw
            case rel => exact ⟨k + 1, _, F, by omega, by go_num, HS2.out, HN2.out⟩
            case measure => simp [intOf]; omega
          · have HNF : Hid (naF ts E Ss = false) := Lib.hid (nag_no (by
              rw [← HST.out]; simp [nagF, hv, qs]))
            have qs' : (v0 == sort) = false := by simp [qs]
            clear HST hv
            go_wp2_with (at_lookup; go_loud (refine wpList_look_hit rfl 9 3 91 _ _ rfl Tryz.underlying9 Tryz.underlying91 (S + 1) _ rfl HAL.out.mv name rfl jf (.int .i64 v0) HF.out ?_))
            go_ret
            exact ⟨by rw [HNF.out]; rfl, by rw [HS.out]; exact HAL.out.bel⟩
      · have g4 : (op == 4) = false := by simp [q4]
        have g5 : (op == 5) = false := by simp [q5]
        have HS2 : Hid (nagF E Ss (ts.drop (k + 1)) (k + 1) V F = nagF E Ss ts 0 [] []) := Lib.hid (by
          rw [← HST.out]; simp [nagF, q4, q5])
        have HAL := Lib.hid (HN.out.far (alloc_far' wr (.cells #[.int .i64 op, .int .i64 sort, .string name, .string num, .int .i64 kids] 51)))
        go_wp2
        go_roundw
        case rel => exact ⟨k + 1, V, F, by omega, by go_num, HS2.out, HAL.out⟩
        case measure => simp [intOf]; omega
    · have HI2 : Hid (nagF E Ss ts 0 [] [] = some (V, F)) := Lib.hid (by
        rw [← HI.out, List.drop_of_length_le (by omega)]; rfl)
      clear HI
      go_wp2
      go_loopw [80] (fun i wr => ∃ k : Nat, k ≤ ts.length ∧ i = .int .i64 k ∧ (ts.take k).all (fun x => !(x.op == 5 && (lookA x.name V).isSome)) = true ∧ NM S w a1 n1 c1 a2 n2 c2 V F wr) (fun i _ => ts.length - (intOf i).toNat)
      case atStart => exact ⟨0, Nat.zero_le _, rfl, rfl, HN.out⟩
      case round =>
        clear HN hlt hk
        obtain ⟨k, hk, rfl, hT, hnm⟩ := hrel
        have HN := Lib.hid hnm
        have HT := Lib.hid hT
        clear hnm hT
        by_cases hlt : k < ts.length
        · obtain rfl := HA.out (by omega)
          have hx : ts[k]? = some ts[k] := List.getElem?_eq_getElem hlt
          have hia : NodesAt wr g ts := HC.out.below HN.out.bel hg
          have c0 := hia k _ hx 0 (by omega)
          have c1' := hia k _ hx 1 (by omega)
          have c2' := hia k _ hx 2 (by omega)
          have c3 := hia k _ hx 3 (by omega)
          have c4 := hia k _ hx 4 (by omega)
          simp only [Nd.cells, List.getElem?_cons_succ, List.getElem?_cons_zero, Nat.add_zero] at c0 c1' c2' c3 c4
          have HTK : Hid (∀ b : Bool, (!(ts[k].op == 5 && (lookA ts[k].name V).isSome)) = b → (ts.take (k + 1)).all (fun x => !(x.op == 5 && (lookA x.name V).isSome)) = b) := Lib.hid (fun b hb => by
            rw [List.take_add_one, hx, List.all_append, HT.out, ← hb]; simp)
          have hmem := List.getElem_mem hlt
          have HFA : Hid ((!(ts[k].op == 5 && (lookA ts[k].name V).isSome)) = false → naF ts E Ss = false) := Lib.hid (fun h => by
            unfold naF; rw [HI2.out]; exact Bool.eq_false_iff.2 fun hh => by rw [List.all_eq_true.1 hh _ hmem] at h; cases h)
          clear hia hx HT hmem
          generalize ts[k] = x at *
          obtain ⟨op, sort, name, num, kids⟩ := x
          simp only at c0 c1' c2' c3 c4
          have HAL := Lib.hid (HN.out.far (alloc_far' wr (.cells #[.int .i64 op, .int .i64 sort, .string name, .string num, .int .i64 kids] 51)))
          by_cases q5 : op = 5
          · subst q5
            cases hv : lookA name V with
            | none =>
              have HF := Lib.hid (findI_none 0 hv)
              have HT2 := Lib.hid (HTK.out true (by simp [hv]))
              clear HTK HFA hv
              go_wp2_with (at_lookup; go_loud (refine wpList_look_miss rfl 9 3 91 _ _ rfl Tryz.underlying9 Tryz.underlying91 (S + 1) _ rfl HAL.out.mv name rfl _ HF.out (zeroInt _) ?_))
              go_roundw
              case rel => exact ⟨k + 1, by omega, by go_num, HT2.out, HAL.out⟩
              case measure => simp [intOf]; omega
            | some v0 =>
              obtain ⟨jf, hjf⟩ := findI_some 0 hv
              have HF := Lib.hid hjf
              have HNF := Lib.hid (HFA.out (by simp [hv]))
              clear HTK HFA hv hjf
              go_wp2_with (at_lookup; go_loud (refine wpList_look_hit rfl 9 3 91 _ _ rfl Tryz.underlying9 Tryz.underlying91 (S + 1) _ rfl HAL.out.mv name rfl jf (.int .i64 v0) HF.out ?_))
              go_ret
              exact ⟨by rw [HNF.out]; rfl, by rw [HS.out]; exact HAL.out.bel⟩
          · have g5 : (op == 5) = false := by simp [q5]
            have HT2 := Lib.hid (HTK.out true (by simp [q5]))
            clear HTK HFA
            go_wp2
            go_roundw
            case rel => exact ⟨k + 1, by omega, by go_num, HT2.out, HAL.out⟩
            case measure => simp [intOf]; omega
        · have HNT : Hid (naF ts E Ss = true) := Lib.hid (by
            unfold naF; rw [HI2.out]; have := HT.out; rwa [List.take_of_length_le (by omega)] at this)
          clear HT HI2
          go_wp2
          go_ret
          exact ⟨by rw [HNT.out]; rfl, by rw [HS.out]; exact HN.out.bel⟩
end
end Go.Proofs.YthefknoicelhaaaGreatDoor.Se

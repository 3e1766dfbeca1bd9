/- Environments of any sorts: bindings, what they say of a name, the value of an expression; value.Valid, validEnv. -/
import Derived.Test.YteoklapcifonaaaGreatDoorWPE
namespace Go.Proofs.YteoklapcifonaaaGreatDoor
open Go.RowKit Nmx

/-- a value as a text: none at a bool -/
def txE (x : Int × Rat) : ByteArray := if x.1 = 1 then ⟨#[]⟩ else TX x.2
def EntOk (D : Nat) (x : Int × Rat) : Prop := x.1 = 1 ∨ ((x.1 = 2 ∨ x.1 = 3) ∧ DS D x.2 ∧ (x.1 = 2 → x.2.den = 1))
theorem txE_num {s : Int} {q : Rat} (h : s = 2 ∨ s = 3) : txE (s, q) = TX q := if_neg (show ¬ s = 1 by omega)
/-- a slice of bindings of any sorts -/
structure BGl (w : World) (ao : Option Addr) (g off cap : Nat) (es : List (List UInt8 × Int × Rat)) : Prop where
  le : es.length ≤ cap
  most : cap ≤ 9223372036854775807
  ad : 0 < cap → ao = some ⟨g, off, none⟩
  cl : ∀ i (h : i < es.length) (c : Nat) (v : Value), (#[.string ⟨es[i].1.toArray⟩, .int .i64 es[i].2.1, .bool false, .string (txE es[i].2), .slice none 0 0, .slice none 0 0] : Array Value)[c]? = some v → w.cell? ⟨g, off + i * 6 + c, none⟩ = some v
theorem BGl.far {w w' : World} {ao : Option Addr} {g off cap : Nat} {es : List (List UInt8 × Int × Rat)} (h : BGl w ao g off cap es) (hb : Below w.heap.size w w') : BGl w' ao g off cap es :=
  ⟨h.le, h.most, h.ad, fun i hi c v hv => (hb.cell (World.block_lt_of_cell? _ _ (h.cl i hi c v hv))).trans (h.cl i hi c v hv)⟩
/-- an environment -/
def EG (w : World) (v : Value) (D : Nat) (es : List (List UInt8 × Int × Rat)) : Prop := ∃ ao g off cap, v = .slice ao es.length cap ∧ BGl w ao g off cap es ∧ ∀ x ∈ es, EntOk D x.2
theorem EG.far {w w' : World} {v : Value} {D : Nat} {es : List (List UInt8 × Int × Rat)} (h : EG w v D es) (hb : Below w.heap.size w w') : EG w' v D es :=
  let ⟨ao, g, off, cap, h1, h2, h3⟩ := h; ⟨ao, g, off, cap, h1, h2.far hb, h3⟩
/-- what an environment says of a name -/
def lkE : List (List UInt8 × Int × Rat) → List UInt8 → Option (Int × Rat)
  | [], _ => none
  | x :: l, n => if x.1 = n then some x.2 else lkE l n
theorem lkE_ok {D : Nat} {n : List UInt8} {y : Int × Rat} : ∀ {es : List (List UInt8 × Int × Rat)}, (∀ x ∈ es, EntOk D x.2) → lkE es n = some y → EntOk D y
  | [], _, h => by cases h
  | x :: l, hx, h => by
    unfold lkE at h
    split at h
    · cases h; exact hx x (by simp)
    · exact lkE_ok (fun z hz => hx z (by simp [hz])) h
theorem lkE_append (n : List UInt8) (b : List (List UInt8 × Int × Rat)) : ∀ a : List (List UInt8 × Int × Rat), lkE (a ++ b) n = (lkE a n).or (lkE b n)
  | [] => rfl
  | x :: a => by
    show (if x.1 = n then some x.2 else lkE (a ++ b) n) = (if x.1 = n then some x.2 else lkE a n).or (lkE b n)
    split
    · rfl
    · exact lkE_append n b a
/-- the value of an expression, or the error -/
def evG (s : Int) (f : List UInt8 → Option (Int × Rat)) : Rat → List (List UInt8 × Rat) → Int × Rat
  | p, [] => (0, p)
  | p, x :: cs => match f x.1 with
    | none => (7, 0)
    | some y => if y.1 = s then evG s f (p + x.2 * y.2) cs else (3, 0)
theorem evG_ds {s : Int} {d D : Nat} {f : List UInt8 → Option (Int × Rat)} (hs : s = 2 ∨ s = 3) (hf : ∀ n y, f n = some y → EntOk D y) : ∀ (cs : List (List UInt8 × Rat)) (e : Nat) (p : Rat), DS e p → (∀ x ∈ cs, DS d x.2) → DS (e + cs.length * (d + D + 1)) (evG s f p cs).2
  | [], e, p, hp, _ => by rw [List.length_nil, Nat.zero_mul]; exact hp
  | x :: cs, e, p, hp, hc => by
    unfold evG;cases hx : f x.1 with
    | none => exact DS.zero _
    | some y =>
      show DS _ (if y.1 = s then evG s f (p + x.2 * y.2) cs else (3, 0)).2
      split
      · rename_i hy
        obtain h1 | ⟨-, h1, -⟩ := hf _ _ hx
        · omega
        · have h2 := hp.add ((hc x (by simp)).mul h1);have h3 := evG_ds hs hf cs _ _ h2 fun y hy => hc y (by simp [hy])
          rw [show e + (d + D) + 1 + cs.length * (d + D + 1) = e + (x :: cs).length * (d + D + 1) by rw [List.length_cons, Nat.add_mul]; omega] at h3;exact h3
      · exact DS.zero _
section
set_option maxRecDepth 100000
set_option maxHeartbeats 8000000
theorem valValidN {D : Nat} {s : Int} {q : Rat} (hs : s = 2 ∨ s = 3) (hD : D ≤ 3000) (hq : DS D q ∧ (s = 2 → q.den = 1)) (w : World) (hE : Env w) :
    Calls Tryz.prog 143 #[.agg #[.int .i64 s, .bool false, .string (TX q), .slice none 0 0, .slice none 0 0]] w fun e w' => e = .returned (.bool true) ∧ Below w.heap.size w w' := by
  have hii := fun W (h : Below w.heap.size w W) => numIsIntT hq.1 (by omega) W (hE.far h)
  have hva := fun W (h : Below w.heap.size w W) => numValidE hq.1 (by omega) W (hE.far h)
  have hden : s = 2 → decide (q.den = 1) = true := fun h => decide_eq_true (hq.2 h)
  generalize TX q = tq at *;have HA := Lib.hid (heap_alloc_new w (.cells #[.int .i64 s, .bool false, .string tq, .slice none 0 0, .slice none 0 0] 63));have HB := Lib.hid (alloc_far w (.cells #[.int .i64 s, .bool false, .string tq, .slice none 0 0, .slice none 0 0] 63));have HII := Lib.hid hii;have HVA := Lib.hid hva;clear hii hva hq hE;rcases hs with rfl | rfl
  · have hd := hden rfl;have HD := Lib.hid hd;clear hden hd
    go_enter Tryz.func143, Tryz.ntmps143
    go_wp2_with fail
    refine (HII.out _ HB.out).mono ?_;rintro e w1 ⟨rfl, hb⟩;rw [HD.out];replace HB := Lib.hid (HB.out.trans (hb.mono HB.out.size));clear hb
    go_wp2
    go_ret
    exact ⟨rfl, HB.out⟩
  · clear hden
    go_enter Tryz.func143, Tryz.ntmps143
    go_wp2_with fail
    refine (HVA.out _ HB.out).mono ?_;rintro e w1 ⟨rfl, hb⟩;replace HB := Lib.hid (HB.out.trans (hb.mono HB.out.size));clear hb
    go_wp2
    go_ret
    exact ⟨rfl, HB.out⟩
theorem valValidG {D : Nat} {x : Int × Rat} (hD : D ≤ 3000) (hq : EntOk D x) (w : World) (hE : Env w) :
    Calls Tryz.prog 143 #[.agg #[.int .i64 x.1, .bool false, .string (txE x), .slice none 0 0, .slice none 0 0]] w fun e w' => e = .returned (.bool true) ∧ Below w.heap.size w w' := by
  obtain ⟨s, q⟩ := x;rcases hq with h | ⟨hs, hq⟩
  · obtain rfl : s = 1 := h;show Calls Tryz.prog 143 #[.agg #[.int .i64 1, .bool false, .string ⟨#[]⟩, .slice none 0 0, .slice none 0 0]] w fun e w' => e = .returned (.bool true) ∧ Below w.heap.size w w'
    have HB := Lib.hid (alloc_far w (.cells #[.int .i64 1, .bool false, .string ⟨#[]⟩, .slice none 0 0, .slice none 0 0] 63));clear hE
    go_enter Tryz.func143, Tryz.ntmps143
    go_wp2_with fail
    go_ret
    exact ⟨rfl, HB.out⟩
  · rw [show txE (s, q) = TX q from txE_num hs];exact valValidN hs hD hq w hE
theorem validEnvFG {D : Nat} {x : Int × Rat} {nm : ByteArray} (hD : D ≤ 3000) (hq : EntOk D x) (w : World) (hE : Env w) :
    Calls Tryz.prog 142 #[.agg #[.string nm, .int .i64 x.1, .bool false, .string (txE x), .slice none 0 0, .slice none 0 0]] w fun e w' => e = .returned (.bool false) ∧ Below w.heap.size w w' := by
  have hva := fun W (h : Below w.heap.size w W) => valValidG hD hq W (hE.far h)
  obtain ⟨s, q⟩ := x
  dsimp only at *
  generalize txE (s, q) = tq at *;have HA := Lib.hid (heap_alloc_new w (.cells #[.string nm, .int .i64 s, .bool false, .string tq, .slice none 0 0, .slice none 0 0] 65));have HB := Lib.hid (alloc_far w (.cells #[.string nm, .int .i64 s, .bool false, .string tq, .slice none 0 0, .slice none 0 0] 65));have HVA := Lib.hid hva;clear hva hq hE
  go_enter Tryz.func142, Tryz.ntmps142
  go_wp2_with fail
  refine (HVA.out _ HB.out).mono ?_;rintro e w1 ⟨rfl, hb⟩;replace HB := Lib.hid (HB.out.trans (hb.mono HB.out.size));clear hb
  go_wp2
  go_ret
  exact ⟨rfl, HB.out⟩
theorem indexFuncG {D : Nat} {es : List (List UInt8 × Int × Rat)} {ao : Option Addr} {g off cap : Nat} (hD : D ≤ 3000) (w : World) (h : BGl w ao g off cap es) (hq : ∀ x ∈ es, EntOk D x.2) (hE : Env w) :
    Calls Tryz.prog 166 #[.slice ao es.length cap, (.func (.func 142) #[] #[])] w fun e w' => e = .returned (.int .i64 (-1)) ∧ Below w.heap.size w w' := by
  have hle := h.le;have hmost := h.most;have HH := Lib.hid h;have HQ := Lib.hid hq;have HE := Lib.hid hE;obtain ⟨n, hn⟩ : ∃ n, es.length = n := ⟨_, rfl⟩
  have HN := Lib.hid hn;rw [hn] at hle ⊢;clear hn h hq hE
  go_enter Tryz.func166, Tryz.ntmps166
  go_wp2_with fail
  go_loopg [8] n (fun gh v8 wr => ∃ (i : Nat), gh = n - i ∧ i ≤ n ∧ v8 = .int .i64 i ∧ Below w.heap.size w wr)
  case atStart => exact ⟨0, rfl, Nat.zero_le _, rfl, Below.refl _ _⟩
  case round =>
    obtain ⟨i, rfl, hi, rfl, hb⟩ := hrel;have HB := Lib.hid hb;clear hb;have hi0 : (0 : Int) ≤ (i : Int) := by omega
    by_cases hlt : i < n
    · have hlt' : (i : Int) < (n : Int) := by omega
      have hl : i < es.length := by rw [HN.out]; exact hlt
      have had := HH.out.ad (by omega);subst had;have hcl := fun c v hv => (HH.out.far HB.out).cl i hl c v hv
      have hqi := HQ.out _ (List.getElem_mem hl);have hvf := fun W (hW : Below w.heap.size w W) => @validEnvFG D es[i].2 ⟨es[i].1.toArray⟩ hD hqi W (HE.out.far hW)
      generalize txE es[i].2 = tq at *;generalize es[i].2.1 = sv at *;generalize (⟨es[i].1.toArray⟩ : ByteArray) = tn at *;have c0 := hcl 0 _ rfl;rw [Nat.add_zero] at c0;have c1 := hcl 1 _ rfl;have c2 := hcl 2 _ rfl;have c3 := hcl 3 _ rfl;have c4 := hcl 4 _ rfl;have c5 := hcl 5 _ rfl;have HVF := Lib.hid hvf;clear hvf hcl hqi hl
      go_wp2_with fail
      refine (HVF.out _ HB.out).mono ?_;rintro e w1 ⟨rfl, hb⟩;have HB1 := Lib.hid (HB.out.trans (hb.mono HB.out.size));clear hb c0 c1 c2 c3 c4 c5
      go_wp2_with fail
      go_roundg (n - (i + 1))
      case rel => exact ⟨i + 1, rfl, by omega, by go_num, HB1.out⟩
      case measure => omega
    · have hlt' : ¬ ((i : Int) < (n : Int)) := by omega
      go_wp2
      go_ret
      exact ⟨rfl, HB.out⟩
theorem containsFuncG {D : Nat} {es : List (List UInt8 × Int × Rat)} {ao : Option Addr} {g off cap : Nat} (hD : D ≤ 3000) (w : World) (h : BGl w ao g off cap es) (hq : ∀ x ∈ es, EntOk D x.2) (hE : Env w) :
    Calls Tryz.prog 141 #[.slice ao es.length cap, (.func (.func 142) #[] #[])] w fun e w' => e = .returned (.bool false) ∧ Below w.heap.size w w' := by
  have hx := indexFuncG hD w h hq hE;clear h hq hE
  go_enter Tryz.func141, Tryz.ntmps141
  go_wp2_with fail
  refine hx.mono ?_;rintro e w1 ⟨rfl, hb⟩;clear hx
  go_wp2
  go_ret
  exact ⟨rfl, hb⟩
theorem validEnvG {D : Nat} {es : List (List UInt8 × Int × Rat)} {v : Value} (hD : D ≤ 3000) (w : World) (h : EG w v D es) (hE : Env w) :
    Calls Tryz.prog 92 #[v] w fun e w' => e = .returned (.bool true) ∧ Below w.heap.size w w' := by
  obtain ⟨ao, g, off, cap, rfl, hb, hg⟩ := h;have hx := containsFuncG hD w hb hg hE;clear hb hg hE
  go_enter Tryz.func92, Tryz.ntmps92
  go_wp2_with fail
  refine hx.mono ?_;rintro e w1 ⟨rfl, hb⟩;clear hx
  go_wp2
  go_ret
  exact ⟨rfl, hb⟩
end
end Go.Proofs.YteoklapcifonaaaGreatDoor
/- The value of an expression in any environment: eval. -/
namespace Go.Proofs.YteoklapcifonaaaGreatDoor
open Go.RowKit Nmx

def valE (x : Int × Rat) : Value := .agg #[.int .i64 x.1, .bool false, .string (txE x), .slice none 0 0, .slice none 0 0]
theorem findS_snoc (k k' : ByteArray) (v : Value) : ∀ (l : List (ByteArray × Value)) (i : Nat), findS k (l ++ [(k', v)]) i = (findS k l i).or (if k = k' then some (i + l.length, v) else none)
  | [], i => by
    show (if k = k' then some (i, v) else none) = _;rfl
  | p :: l, i => by
    show (if k = p.1 then some (i, p.2) else findS k (l ++ [(k', v)]) (i + 1)) = (if k = p.1 then some (i, p.2) else findS k l (i + 1)).or _
    by_cases h : k = p.1
    · rw [if_pos h, if_pos h]; rfl
    · rw [if_neg h, if_neg h, findS_snoc k k' v l (i + 1), List.length_cons, Nat.add_assoc, Nat.add_comm 1]
/-- the map says what the environment says -/
def MapOk (kvs : List (ByteArray × Value)) (es : List (List UInt8 × Int × Rat)) : Prop := ∀ n : List UInt8, (lkE es n = none → findS ⟨n.toArray⟩ kvs 0 = none) ∧ ∀ y, lkE es n = some y → ∃ j, findS ⟨n.toArray⟩ kvs 0 = some (j, valE y)
theorem mapOk_nil : MapOk [] [] := fun _ => ⟨fun _ => rfl, fun _ h => (by cases h)⟩
theorem lkE_one (x : List UInt8 × Int × Rat) (n : List UInt8) : lkE [x] n = if x.1 = n then some x.2 else none := rfl
theorem mapOk_hit {kvs : List (ByteArray × Value)} {es : List (List UInt8 × Int × Rat)} {x : List UInt8 × Int × Rat} {y : Int × Rat} (h : MapOk kvs es) (hy : lkE es x.1 = some y) : MapOk kvs (es ++ [x]) := by
  intro n;rw [lkE_append, lkE_one];obtain ⟨h1, h2⟩ := h n;cases hn : lkE es n with
  | none =>
    rw [Option.none_or, if_neg (fun e => by rw [e, hn] at hy; cases hy)];exact ⟨fun _ => h1 hn, fun _ h => (by cases h)⟩
  | some z =>
    refine ⟨fun h => (by cases h), fun y' h => ?_⟩;cases h
    exact h2 z hn
theorem mapOk_miss {kvs : List (ByteArray × Value)} {es : List (List UInt8 × Int × Rat)} {x : List UInt8 × Int × Rat} (h : MapOk kvs es) : MapOk (kvs ++ [(⟨x.1.toArray⟩, valE x.2)]) (es ++ [x]) := by
  intro n;rw [lkE_append, lkE_one, findS_snoc];obtain ⟨h1, h2⟩ := h n;cases hn : lkE es n with
  | none =>
    rw [h1 hn, Option.none_or, Option.none_or]
    by_cases e : x.1 = n
    · rw [if_pos e, if_pos (show (⟨n.toArray⟩ : ByteArray) = ⟨x.1.toArray⟩ by rw [e])];exact ⟨fun h => (by cases h), fun y h => (by cases h; exact ⟨_, rfl⟩)⟩
    · rw [if_neg e, if_neg (fun e2 => e (bytes_inj e2).symm)];exact ⟨fun _ => rfl, fun _ h => (by cases h)⟩
  | some z =>
    refine ⟨fun h => (by cases h), fun y' h => ?_⟩;cases h
    obtain ⟨j, hj⟩ := h2 z hn;exact ⟨j, by rw [hj]; rfl⟩
theorem rvZ (w : World) : RV w (.agg #[.int .i64 0, .bool false, .slice none 0 0, .int .i64 0, .bool false, .slice none 0 0]) 0 :=
  ⟨_, _, _, _, _, _, _, _, _, _, rfl, zeroIV w, by rw [denI_one (show (0 : Rat).den = 1 from rfl)]; exact zeroIV w⟩
theorem evG_step {s : Int} {f : List UInt8 → Option (Int × Rat)} {q : Rat} {cs : List (List UInt8 × Rat)} {j : Nat} (h : j < cs.length) : evG s f q (cs.drop j) = match f cs[j].1 with
    | none => (7, 0)
    | some y => if y.1 = s then evG s f (q + cs[j].2 * y.2) (cs.drop (j + 1)) else (3, 0) := by
  rw [List.drop_eq_getElem_cons h];rfl
/-- an error and no number are handed back -/
theorem end_re {fn : Func} {t u : Tmp} {a : Act} {w2 : World} {R : Nat} {E : Int} {s1 : Int} {b1 : Bool} {a1 : Option Addr} {n1 c1 : Nat} {s2 : Int} {b2 : Bool} {a2 : Option Addr} {n2 c2 : Nat} {post : Ending → World → Prop} (hres : fn.results = #[.cell t 85, .tmp u]) (hd : a.defers = []) (ht : a.tmps.getD t undef = .pointer (some ⟨R, 0, none⟩)) (hu : a.tmps.getD u undef = .int .i64 E)
    (hR : w2.heap[R]? = some (.cells #[.int .i64 s1, .bool b1, .slice a1 n1 c1, .int .i64 s2, .bool b2, .slice a2 n2 c2] 85 (0, 0))) (h : post (.returned (.tuple #[.agg #[.int .i64 s1, .bool b1, .slice a1 n1 c1, .int .i64 s2, .bool b2, .slice a2 n2 c2], .int .i64 E])) w2) :
    bodyPost Tryz.prog fn post .ret a w2 := by
  have k0 := heap_cell hR 0;have k1 := heap_cell hR 1;have k2 := heap_cell hR 2;have k3 := heap_cell hR 3;have k4 := heap_cell hR 4;have k5 := heap_cell hR 5
  simp at k0 k1 k2 k3 k4 k5
  refine bodyPost_ret (v := .tuple #[.agg #[.int .i64 s1, .bool b1, .slice a1 n1 c1, .int .i64 s2, .bool b2, .slice a2 n2 c2], .int .i64 E]) ?_ hd h;have ht' : a.tmps[t]?.getD undef = .pointer (some ⟨R, 0, none⟩) := by simpa using ht
  have hu' : a.tmps[u]?.getD undef = .int .i64 E := by simpa using hu
  simp [results, hres, go_sem, ht', hu', k0, k1, k2, k3, k4, k5]
section
set_option maxRecDepth 100000
set_option maxHeartbeats 16000000
theorem evalG_any {d D : Nat} {w : World} {s : Int} {a1 : Option Addr} {n1 c1 : Nat} {t1 : ByteArray} {p : Rat} {cs : List (List UInt8 × Rat)} {ve : Value} {es : List (List UInt8 × Int × Rat)} (h : LV w (.agg #[.int .i64 s, .slice a1 n1 c1, .string t1]) s d p cs) (he : EG w ve D es) (hs : s = 2 ∨ s = 3) (hd : d ≤ 100) (hD : D ≤ 300) (hE : Env w) :
    Calls Tryz.prog 93 #[.agg #[.int .i64 s, .slice a1 n1 c1, .string t1], ve] w fun e w' => ∃ v, e = .returned (.tuple #[v, .int .i64 (evG s (lkE es) p cs).1]) ∧ RV w' v (evG s (lkE es) p cs).2 ∧ Below w.heap.size w w' := by
  obtain ⟨ae, ge, offe, ce, rfl, hbs, hg⟩ := he;obtain ⟨Ec, Eq, hEE⟩ : ∃ a b, evG s (lkE es) p cs = (a, b) := ⟨_, _, rfl⟩
  rw [hEE]
  dsimp only
  have HEE := Lib.hid hEE;have hfo : ∀ n y, lkE es n = some y → EntOk D y := fun n y => lkE_ok hg
  have HFO := Lib.hid hfo;have HSS := Lib.hid hs;clear hEE hfo hs;have hle := hbs.le;have hmost := hbs.most;have hmm := fun n => @run_makeMapN Tryz.prog 143 9 63 Tryz.underlying143 .i64 n
  obtain ⟨m1, m2, m3, mb⟩ := newE w (.cells #[.int .i64 s, .slice a1 n1 c1, .string t1] 26) (.cells #[.int .i64 0, .bool false, .slice none 0 0, .int .i64 0, .bool false, .slice none 0 0] 85);have HEB := Lib.hid (⟨m1, m2, m3, mb⟩ : EB w _ s a1 n1 c1 t1 []);have HL := Lib.hid h;have HE := Lib.hid hE;have HBS := Lib.hid hbs;obtain ⟨n, hn⟩ : ∃ n, es.length = n := ⟨_, rfl⟩
  have HN := Lib.hid hn;rw [hn] at hle ⊢;obtain ⟨hln, htx, dp⟩ := h.length;have hgd := h.good.1;have hmk : ∀ W, Below w.heap.size w W → Calls Tryz.prog 56 #[.string t1] W (GetsQ p W) := fun W hW => by rw [htx]; exact mustT dp (by omega) W (hE.far hW)
  have HMK := Lib.hid hmk;have HDP := Lib.hid dp;have HGD := Lib.hid hgd
  have hsl : ∃ g off cap, c1 = cap ∧ CSl w a1 g off cap cs := by
    obtain ⟨ao, g, off, cap, he, hc, -⟩ := h;injection he with he;injection he with he;injection he with _ he;injection he with he1 _;injection he1 with e1 e2 e3;subst e1 e3;exact ⟨g, off, _, rfl, hc⟩
  obtain ⟨g, off, cap, rfl, hc⟩ := hsl;have hle2 := hc.le;have hmost2 := hc.most;rw [← hln] at hle2;have HC := Lib.hid hc;have HLN := Lib.hid hln;have HLC : Hid (cs.length ≤ 4) := Lib.hid (can_len hgd.can hgd.nm);clear hmk htx dp hgd hc hln;clear m1 m2 m3 mb h hE hbs hg hn
  go_enter Tryz.func93, Tryz.ntmps93
  go_wp2_with fail
  generalize ((w.alloc (.cells #[.int .i64 s, .slice a1 n1 c1, .string t1] 26)).alloc (.cells #[.int .i64 0, .bool false, .slice none 0 0, .int .i64 0, .bool false, .slice none 0 0] 85)).alloc (.map #[] 0) = w1 at *
  go_loopg [21] n (fun gh v21 wr => ∃ (i : Nat), gh = n - i ∧ i ≤ n ∧ v21 = .int .i64 i ∧ ∃ kvs, EB w wr s a1 n1 c1 t1 kvs ∧ MapOk kvs (es.take i))
  case atStart => exact ⟨0, rfl, Nat.zero_le _, rfl, [], HEB.out, mapOk_nil⟩
  case round =>
    obtain ⟨i, rfl, hi, rfl, kvs, hb, hmo⟩ := hrel;have HB1 := Lib.hid hb;have HMO := Lib.hid hmo;clear hb HEB hmo;have hi0 : (0 : Int) ≤ (i : Int) := by omega
    by_cases hlt : i < n
    · have hlt' : (i : Int) < (n : Int) := by omega
      have hl : i < es.length := by rw [HN.out]; exact hlt
      have had := HBS.out.ad (by omega);subst had;have hcl := fun c v hv => (HBS.out.far HB1.out.bel).cl i hl c v hv
      have htk : es.take (i + 1) = es.take i ++ [es[i]] := List.take_succ_eq_append_getElem hl;have hmi : lkE (es.take i) es[i].1 = none → MapOk (kvs ++ [(⟨es[i].1.toArray⟩, valE es[i].2)]) (es.take (i + 1)) := fun _ => by rw [htk]; exact mapOk_miss HMO.out
      have hhi : ∀ y, lkE (es.take i) es[i].1 = some y → MapOk kvs (es.take (i + 1)) := fun y h => by rw [htk]; exact mapOk_hit HMO.out h
      have hf1 := (HMO.out es[i].1).1;have hf2 := (HMO.out es[i].1).2;unfold valE at hmi hf2;obtain ⟨lk, hlk⟩ : ∃ o, lkE (es.take i) es[i].1 = o := ⟨_, rfl⟩
      rw [hlk] at hmi hhi hf1 hf2;obtain ⟨tq, htq⟩ : ∃ t, txE es[i].2 = t := ⟨_, rfl⟩
      obtain ⟨sv, hsv⟩ : ∃ t, es[i].2.1 = t := ⟨_, rfl⟩
      obtain ⟨tn, htn⟩ : ∃ t : ByteArray, (⟨es[i].1.toArray⟩ : ByteArray) = t := ⟨_, rfl⟩
      rw [htq] at hcl hmi;rw [htn] at hcl hmi hf1 hf2;rw [hsv] at hcl hmi;have c0 := hcl 0 _ rfl;rw [Nat.add_zero] at c0;have c1 := hcl 1 _ rfl;have c2 := hcl 2 _ rfl;have c3 := hcl 3 _ rfl;have c4 := hcl 4 _ rfl;have c5 := hcl 5 _ rfl;have HMI := Lib.hid hmi;have HHI := Lib.hid hhi;have HF1 := Lib.hid hf1;have HF2 := Lib.hid hf2;clear hcl hl htq htn hsv htk hmi hhi hf1 hf2 hlk;cases lk with
      | none =>
        obtain ⟨m1, m2, mb⟩ := newL2 wr (.cells #[.string tn, .int .i64 sv, .bool false, .string tq, .slice none 0 0, .slice none 0 0] 65) (.cells #[.int .i64 0, .bool false, .string ⟨#[]⟩, .slice none 0 0, .slice none 0 0] 63);have HMB := Lib.hid mb;clear m1 m2 mb
        go_wp2_with (first | (at_lookup; go_loud (refine wpList_look_miss rfl 9 63 143 _ _ rfl Tryz.underlying9 Tryz.underlying143 (w.heap.size + 1 + 1) _ rfl (HB1.out.m.far (alloc_far _ _)) tn rfl _ (HF1.out rfl) (zeroVal _) ?_)) | (at_mapUpdate; go_loud (refine wpList_put_miss rfl 9 63 143 _ _ _ rfl Tryz.underlying9 Tryz.underlying143 (w.heap.size + 1 + 1) _ rfl (HB1.out.m.far HMB.out) tn rfl (.agg #[.int .i64 sv, .bool false, .string tq, .slice none 0 0, .slice none 0 0]) rfl (HF1.out rfl) ?_)))
        intro w2 hm hgr;have HEB2 := Lib.hid ((HB1.out.far HMB.out).put hm hgr);clear hm hgr c0 c1 c2 c3 c4 c5
        go_wp2_with fail
        go_roundg (n - (i + 1))
        case rel => exact ⟨i + 1, rfl, by omega, by go_num, _, HEB2.out, HMI.out trivial⟩
        case measure => omega
      | some y =>
        obtain ⟨jf, hjf⟩ := HF2.out y rfl;generalize txE y = ty at *;generalize y.1 = sy at *;obtain ⟨m1, m2, mb⟩ := newL2 wr (.cells #[.string tn, .int .i64 sv, .bool false, .string tq, .slice none 0 0, .slice none 0 0] 65) (.cells #[.int .i64 sy, .bool false, .string ty, .slice none 0 0, .slice none 0 0] 63);have HMB := Lib.hid mb;have HJF := Lib.hid hjf;have HEB2 := Lib.hid (HB1.out.far mb);clear m1 m2 mb hjf
        go_wp2_with (at_lookup; go_loud (refine wpList_look_hit rfl 9 63 143 _ _ rfl Tryz.underlying9 Tryz.underlying143 (w.heap.size + 1 + 1) _ rfl (HB1.out.m.far (alloc_far _ _)) tn rfl jf (.agg #[.int .i64 sy, .bool false, .string ty, .slice none 0 0, .slice none 0 0]) HJF.out ?_))
        go_roundg (n - (i + 1))
        case rel => exact ⟨i + 1, rfl, by omega, by go_num, _, HEB2.out, HHI.out y rfl⟩
        case measure => omega
    · obtain rfl : i = n := by omega
      have hlt' : ¬ ((i : Int) < (i : Int)) := by omega
      have hall : es.take i = es := by rw [← HN.out]; exact List.take_length
      rw [hall] at HMO;clear hall;have p0 := heap_cell HB1.out.a 0;have p1 := heap_cell HB1.out.a 1;have p2 := heap_cell HB1.out.a 2;have hla := lt_of_heap HB1.out.a
      go_wp2_with fail
      refine (HMK.out _ HB1.out.bel).mono ?_;rintro e w2 ⟨v2, rfl, hv, hb⟩;have HB2 := Lib.hid (HB1.out.far hb);obtain ⟨s3, b3, ao3, n3, c3, s4, b4, ao4, n4, c4, rfl, -, -⟩ := rv_form hv;have HV2 := Lib.hid hv;clear hv hb p0 p1 p2 hla HB1;have p0 := heap_cell HB2.out.a 0;have p1 := heap_cell HB2.out.a 1;have p2 := heap_cell HB2.out.a 2;have hla := lt_of_heap HB2.out.a;have hal := alloc_far w2 (.cells #[.int .i64 s3, .bool b3, .slice ao3 n3 c3, .int .i64 s4, .bool b4, .slice ao4 n4 c4] 85);have HES := Lib.hid (⟨HB2.out.far hal, heap_alloc_new _ _, HV2.out.far hal, HB2.out.m.lt⟩ : ES w (w2.alloc (.cells #[.int .i64 s3, .bool b3, .slice ao3 n3 c3, .int .i64 s4, .bool b4, .slice ao4 n4 c4] 85)) s a1 n1 c1 t1 kvs w2.heap.size (.int .i64 s3) (.bool b3) (.slice ao3 n3 c3) (.int .i64 s4) (.bool b4) (.slice ao4 n4 c4) p);clear hal HV2;obtain ⟨k, hk⟩ : ∃ k, cs.length = k := ⟨_, rfl⟩
      have HK := Lib.hid hk;obtain rfl : n1 = k := HLN.out.trans hk;clear hk
      go_wp2_with fail
      generalize w2.alloc (.cells #[.int .i64 s3, .bool b3, .slice ao3 n3 c3, .int .i64 s4, .bool b4, .slice ao4 n4 c4] 85) = w5 at *;generalize w2.heap.size = S at *;clear p0 p1 p2 hla HB2
      go_loopg [46] n1 (fun gh v46 wr => ∃ (j : Nat) (y0 y1 y2 y3 y4 y5 : Value), gh = n1 - j ∧ j ≤ n1 ∧ v46 = .int .i64 j ∧ ∃ q1, ES w wr s a1 n1 c1 t1 kvs S y0 y1 y2 y3 y4 y5 q1 ∧ evG s (lkE es) q1 (cs.drop j) = (Ec, Eq) ∧ DS (d + j * (d + D + 1)) q1)
      case atStart => exact ⟨0, _, _, _, _, _, _, rfl, Nat.zero_le _, rfl, p, HES.out, HEE.out, by rw [Nat.zero_mul]; exact HDP.out⟩
      case round =>
        obtain ⟨j, y0, y1, y2, y3, y4, y5, rfl, hj, rfl, q1, hes, hev, dq0⟩ := hrel;have HE2 := Lib.hid hes;have HEV := Lib.hid hev;have HDQ := Lib.hid dq0;clear hes HES hev dq0;have hj0 : (0 : Int) ≤ (j : Int) := by omega
        by_cases hlt2 : j < n1
        · have hlt3 : (j : Int) < (n1 : Int) := by omega
          have hl : j < cs.length := by rw [HK.out]; exact hlt2
          have had := HC.out.ad (by omega);subst had;have c0 := (HC.out.far HE2.out.eb.bel).nm j hl;have c1' := (HC.out.far HE2.out.eb.bel).nu j hl;have dk1 := HGD.out.ds _ (List.getElem_mem hl);have hst := @evG_step s (lkE es) q1 cs j hl;rw [HEV.out] at hst;have hfd := (HMO.out cs[j].1).2;have hfn := (HMO.out cs[j].1).1;have hfo := HFO.out cs[j].1;obtain ⟨lk, hlk⟩ : ∃ o, lkE es cs[j].1 = o := ⟨_, rfl⟩
          rw [hlk] at hst hfd hfn hfo
          have dq1 : DS 1800 q1 := HDQ.out.mono (by
            have h4 := HLC.out;have h6 : j * (d + D + 1) ≤ 4 * (d + D + 1) := Nat.mul_le_mul_right _ (by omega)
            omega)
          obtain ⟨tn, htn⟩ : ∃ t : ByteArray, (⟨cs[j].1.toArray⟩ : ByteArray) = t := ⟨_, rfl⟩
          rw [htn] at c0 hfd hfn;clear htn hlk;generalize cs[j].2 = k1 at *;obtain ⟨tq1, htq1⟩ : ∃ t, TX k1 = t := ⟨_, rfl⟩
          cases lk with
          | none =>
            have hst' : ((Ec, Eq) : Int × Rat) = (7, 0) := hst;obtain ⟨rfl, rfl⟩ : Ec = 7 ∧ Eq = 0 := ⟨congrArg Prod.fst hst', congrArg Prod.snd hst'⟩
            have HJF := Lib.hid (hfn rfl);rw [htq1] at c1';obtain ⟨m1, m2, mb⟩ := newL2 wr (.cells #[.string tn, .string tq1] 79) (.cells #[.int .i64 0, .bool false, .string ⟨#[]⟩, .slice none 0 0, .slice none 0 0] 63);have HES3 := Lib.hid (HE2.out.far mb);clear m1 m2 mb hst hst' hfd hfn hfo dq1 dk1 hl htq1;have p0 := heap_cell HE2.out.eb.a 0;have hla := lt_of_heap HE2.out.eb.a
            go_upto_region 15 with (at_lookup; go_loud (refine wpList_look_miss rfl 9 63 143 _ _ rfl Tryz.underlying9 Tryz.underlying143 (w.heap.size + 1 + 1) _ rfl (HE2.out.eb.m.far (alloc_far _ _)) tn rfl _ HJF.out (zeroVal _) ?_))
            generalize (wr.alloc (.cells #[.string tn, .string tq1] 79)).alloc (.cells #[.int .i64 0, .bool false, .string ⟨#[]⟩, .slice none 0 0, .slice none 0 0] 63) = w6 at *;clear p0 hla c0 c1';have r0 := heap_cell HES3.out.eb.r 0;have r1 := heap_cell HES3.out.eb.r 1;have r2 := heap_cell HES3.out.eb.r 2;have r3 := heap_cell HES3.out.eb.r 3;have r4 := heap_cell HES3.out.eb.r 4;have r5 := heap_cell HES3.out.eb.r 5;have fr := fun i => heap_fz HES3.out.eb.r i
            go_wp2_with fail
            exact end_re rfl rfl rfl rfl (set6_heap HES3.out.eb.r _ _ _ _ _ _) ⟨_, rfl, rvZ _, set6_below HES3.out.eb.bel (by omega) _ _ _ _ _ _⟩
          | some y =>
            have hst' : ((Ec, Eq) : Int × Rat) = if y.1 = s then evG s (lkE es) (q1 + k1 * y.2) (cs.drop (j + 1)) else (3, 0) := hst
            obtain ⟨jf, hjf⟩ := hfd y rfl;have hok := hfo y rfl;clear hst hfd hfn hfo
            by_cases hys : y.1 = s
            · rw [if_pos hys] at hst'
              have dk2 : DS D y.2 := by
                rcases hok with h1 | ⟨-, h1, -⟩
                · have := HSS.out; omega
                · exact h1
              have hd2 : DS (d + (j + 1) * (d + D + 1)) (q1 + k1 * y.2) := (HDQ.out.add (dk1.mul dk2)).mono (by rw [Nat.add_mul]; omega);have HST := Lib.hid hst'.symm;have HD2 := Lib.hid hd2;unfold valE at hjf;rw [hys] at hjf
              have htxe : txE y = TX y.2 := by
                obtain ⟨y1, y2⟩ := y;exact txE_num (by have := HSS.out; rw [show y1 = s from hys]; exact this)
              rw [htxe] at hjf;generalize y.2 = k2 at *;clear hst' hd2 hok hys htxe htq1;obtain ⟨q2, hq2⟩ : ∃ q2, q1 + k1 * k2 = q2 := ⟨_, rfl⟩
              have hmu : ∀ W u v, RV W u k1 → RV W v k2 → Calls Tryz.prog 62 #[u, v] W (GetsQ (k1 * k2) W) := fun W u v hu hv => ratMul_any _ _ k1 k2 W hu hv (ds_rs (k := 50) dk1 (by omega)) (ds_rs (k := 50) dk2 (by omega)) (by omega)
              have had : ∀ W u v, RV W u q1 → RV W v (k1 * k2) → Calls Tryz.prog 95 #[u, v] W (GetsQ (q1 + k1 * k2) W) := fun W u v hu hv => ratAdd_ok _ _ q1 (k1 * k2) W hu hv (ds_rs (k := 300) dq1 (by omega)) (ds_rs (k := 50) (dk1.mul dk2) (by omega)) (by omega)
              have hm1 : ∀ W, Below w.heap.size w W → Calls Tryz.prog 56 #[.string (TX k1)] W (GetsQ k1 W) := fun W hW => mustT dk1 (by omega) W (HE.out.far hW)
              have hm2 : ∀ W, Below w.heap.size w W → Calls Tryz.prog 56 #[.string (TX k2)] W (GetsQ k2 W) := fun W hW => mustT dk2 (by omega) W (HE.out.far hW)
              rw [hq2] at had HST HD2;obtain ⟨tq, htq⟩ : ∃ t, TX k1 = t := ⟨_, rfl⟩
              obtain ⟨tv, htv⟩ : ∃ t, TX k2 = t := ⟨_, rfl⟩
              rw [htq] at hm1 c1';rw [htv] at hm2 hjf;have HMU := Lib.hid hmu;have HAD := Lib.hid had;have HM1 := Lib.hid hm1;have HM2 := Lib.hid hm2;have HJF := Lib.hid hjf;clear hmu had hm1 hm2 hjf htq htv hq2 dq1 dk1 dk2 hl;obtain ⟨m1, m2, mb⟩ := newL2 wr (.cells #[.string tn, .string tq] 79) (.cells #[.int .i64 s, .bool false, .string tv, .slice none 0 0, .slice none 0 0] 63);have HN1 := Lib.hid m1;have HN2 := Lib.hid m2;have HES3 := Lib.hid (HE2.out.far mb);clear m1 m2 mb;have p0 := heap_cell HE2.out.eb.a 0;have hla := lt_of_heap HE2.out.eb.a
              go_wp2_with (at_lookup; go_loud (refine wpList_look_hit rfl 9 63 143 _ _ rfl Tryz.underlying9 Tryz.underlying143 (w.heap.size + 1 + 1) _ rfl (HE2.out.eb.m.far (alloc_far _ _)) tn rfl jf (.agg #[.int .i64 s, .bool false, .string tv, .slice none 0 0, .slice none 0 0]) HJF.out ?_))
              generalize (wr.alloc (.cells #[.string tn, .string tq] 79)).alloc (.cells #[.int .i64 s, .bool false, .string tv, .slice none 0 0, .slice none 0 0] 63) = w6 at *;clear p0 hla c0 c1';obtain ⟨s3, b3, ao3, n3, c3, s4, b4, ao4, n4, c4, hy, -, -⟩ := rv_form HES3.out.vs;injection hy with hy;injection hy with hy;injection hy with e0 hy;injection hy with e1 hy;injection hy with e2 hy;injection hy with e3 hy;injection hy with e4 hy;injection hy with e5 hy;subst e0 e1 e2 e3 e4 e5;clear hy;generalize wr.heap.size + 1 = N2 at *;generalize wr.heap.size = N1 at *;refine add_region [[], [], [1], [1, 2], [], [4], [1, 2, 3, 4, 5], [1, 2, 3, 4, 5, 6], [0, 1, 2, 3, 4, 5, 6, 7], [0, 1, 2, 3, 4, 5, 6, 7, 8]] (fun W => ES w W s (some ⟨g, off, none⟩) n1 c1 t1 kvs S (.int .i64 s3) (.bool b3) (.slice ao3 n3 c3) (.int .i64 s4) (.bool b4) (.slice ao4 n4 c4) q1 ∧ W.heap[N1]? = some (.cells #[.string tn, .string tq] 79 (0, 0)) ∧ W.heap[N2]? = some (.cells #[.int .i64 s, .bool false, .string tv, .slice none 0 0, .slice none 0 0] 63 (0, 0))) (fun _ => True) ?_
              iterate 3
                apply a_con
                · intro x; go_simp; done
                · intro x W R hW hF hR;have p0 := heap_cell hW.1.hs 0;have p1 := heap_cell hW.1.hs 1;have p2 := heap_cell hW.1.hs 2;have p3 := heap_cell hW.1.hs 3;have p4 := heap_cell hW.1.hs 4;have p5 := heap_cell hW.1.hs 5;have q1 := heap_cell hW.2.1 1;have q2 := heap_cell hW.2.2 2;clear hF;unfold addAt
                  go_simp
                  simp only [addUpon];exact hR _ (Below.refl _ _)
                simp only [Act.put, List.setIfInBounds_toArray, List.set_cons_zero, List.set_cons_succ]
              refine a_opq (fun v W => RV W v (k1)) (fun _ _ _ h hb => h.far hb) ?_ ?_ ?_
              · intro x; go_simp; done
              · intro x W R hW hF hR;clear hF;unfold addAt
                go_simp
                simp only [addUpon];refine (HM1.out W hW.1.eb.bel).mono ?_;rintro e w' ⟨v, rfl, hv, hb⟩;exact ⟨v, rfl, hR _ _ hv hb⟩
              simp only [Act.put, List.setIfInBounds_toArray, List.set_cons_zero, List.set_cons_succ, List.length_cons, List.length_nil, Nat.zero_add, Nat.reduceAdd]
              iterate 2
                apply a_con
                · intro x; go_simp; done
                · intro x W R hW hF hR;have p0 := heap_cell hW.1.hs 0;have p1 := heap_cell hW.1.hs 1;have p2 := heap_cell hW.1.hs 2;have p3 := heap_cell hW.1.hs 3;have p4 := heap_cell hW.1.hs 4;have p5 := heap_cell hW.1.hs 5;have q1 := heap_cell hW.2.1 1;have q2 := heap_cell hW.2.2 2;clear hF;unfold addAt
                  go_simp
                  simp only [addUpon];exact hR _ (Below.refl _ _)
                simp only [Act.put, List.setIfInBounds_toArray, List.set_cons_zero, List.set_cons_succ]
              refine a_opq (fun v W => RV W v (k2)) (fun _ _ _ h hb => h.far hb) ?_ ?_ ?_
              · intro x; go_simp; done
              · intro x W R hW hF hR;clear hF;unfold addAt
                go_simp
                simp only [addUpon];refine (HM2.out W hW.1.eb.bel).mono ?_;rintro e w' ⟨v, rfl, hv, hb⟩;exact ⟨v, rfl, hR _ _ hv hb⟩
              simp only [Act.put, List.setIfInBounds_toArray, List.set_cons_zero, List.set_cons_succ, List.length_cons, List.length_nil, Nat.zero_add, Nat.reduceAdd];refine a_opq (fun v W => RV W v (k1 * k2)) (fun _ _ _ h hb => h.far hb) ?_ ?_ ?_
              · intro x; go_simp; done
              · intro x W R hW hF hR;have hv2 := hF.1.2 rfl rfl rfl;simp only [AK.fact] at hv2;have hv1 := hF.2.2.2.1.2 rfl rfl rfl;simp only [AK.fact] at hv1;clear hF;unfold addAt
                go_simp
                simp only [addUpon];refine (HMU.out W _ _ hv1 hv2).mono ?_;rintro e w' ⟨v, rfl, hv, hb⟩;exact ⟨v, rfl, hR _ _ hv hb⟩
              simp only [Act.put, List.setIfInBounds_toArray, List.set_cons_zero, List.set_cons_succ, List.length_cons, List.length_nil, Nat.zero_add, Nat.reduceAdd];refine a_opq (fun v W => RV W v (q2)) (fun _ _ _ h hb => h.far hb) ?_ ?_ ?_
              · intro x; go_simp; done
              · intro x W R hW hF hR;have hu := hF.1.2 rfl rfl rfl;simp only [AK.fact] at hu;clear hF;unfold addAt
                go_simp
                simp only [addUpon];refine (HAD.out W _ _ hW.1.vs hu).mono ?_;rintro e w' ⟨v, rfl, hv, hb⟩;exact ⟨v, rfl, hR _ _ hv hb⟩
              simp only [Act.put, List.setIfInBounds_toArray, List.set_cons_zero, List.set_cons_succ, List.length_cons, List.length_nil, Nat.zero_add, Nat.reduceAdd];refine a_wrt (fun _ W => ∃ z0 z1 z2 z3 z4 z5, ES w W s (some ⟨g, off, none⟩) n1 c1 t1 kvs S z0 z1 z2 z3 z4 z5 q2) (fun _ _ _ h hb => let ⟨z0, z1, z2, z3, z4, z5, h⟩ := h; ⟨z0, z1, z2, z3, z4, z5, h.far hb⟩) (fun _ _ _ _ h => h) ?_ ?_ ?_
              · intro x; go_simp; done
              · intro x W R hW hF hD hR;have hu := hF.1.2 rfl rfl rfl;simp only [AK.fact] at hu;obtain ⟨s1', b1', a1', n1', c1', s2', b2', a2', n2', c2', hx, -, -⟩ := rv_form hu;rw [hx] at hu;simp only [hx];have e0 := heap_cell hW.1.hs 0;have e1 := heap_cell hW.1.hs 1;have e2 := heap_cell hW.1.hs 2;have e3 := heap_cell hW.1.hs 3;have e4 := heap_cell hW.1.hs 4;have e5 := heap_cell hW.1.hs 5;have fr := fun i => heap_fz hW.1.hs i
                clear hF hD;unfold addAt
                go_simp
                simp only [addUpon];exact hR _ _ ⟨_, _, _, _, _, _, hW.1.put hu⟩ trivial (by simp [World.setCell])
              simp only [Act.put];refine a_nil (by kernel_rfl) (by kernel_rfl) (by kernel_rfl) (fun _ _ h hb => ⟨h.1.far hb, (hb.block _ (lt_of_heap h.2.1)).trans h.2.1, (hb.block _ (lt_of_heap h.2.2)).trans h.2.2⟩) (fun _ _ _ _ => trivial) (fun _ _ => trivial) (⟨HES3.out.far (Below.refl _ _).drew, HN1.out, HN2.out⟩) ?_;intro x W hE hW hF hD;clear hD;obtain ⟨z0, z1, z2, z3, z4, z5, hes⟩ := hF.1.2 rfl;have HE4 := Lib.hid hes;clear hF hW hes
              go_wp2_with fail
              go_roundg (n1 - (j + 1))
              case rel => exact ⟨j + 1, z0, z1, z2, z3, z4, z5, rfl, by omega, by go_num, _, HE4.out, HST.out, HD2.out⟩
              case measure => omega
            · rw [if_neg hys] at hst';obtain ⟨rfl, rfl⟩ : Ec = 3 ∧ Eq = 0 := ⟨congrArg Prod.fst hst', congrArg Prod.snd hst'⟩
              unfold valE at hjf;generalize txE y = ty at *;generalize y.1 = sy at *;have HJF := Lib.hid hjf;rw [htq1] at c1';obtain ⟨m1, m2, mb⟩ := newL2 wr (.cells #[.string tn, .string tq1] 79) (.cells #[.int .i64 sy, .bool false, .string ty, .slice none 0 0, .slice none 0 0] 63);have HES3 := Lib.hid (HE2.out.far mb);have hb1 : (sy != s) = true := by rw [bne_iff_ne]; exact hys
              have hb2 : decide (sy = s) = false := decide_eq_false hys;have hb3 : (sy == s) = false := by rw [beq_eq_false_iff_ne]; exact hys
              clear m1 m2 mb hst' hok dq1 dk1 hl htq1 hjf hys;have p0 := heap_cell HE2.out.eb.a 0;have hla := lt_of_heap HE2.out.eb.a
              go_upto_region 17 with (at_lookup; go_loud (refine wpList_look_hit rfl 9 63 143 _ _ rfl Tryz.underlying9 Tryz.underlying143 (w.heap.size + 1 + 1) _ rfl (HE2.out.eb.m.far (alloc_far _ _)) tn rfl jf (.agg #[.int .i64 sy, .bool false, .string ty, .slice none 0 0, .slice none 0 0]) HJF.out ?_))
              generalize (wr.alloc (.cells #[.string tn, .string tq1] 79)).alloc (.cells #[.int .i64 sy, .bool false, .string ty, .slice none 0 0, .slice none 0 0] 63) = w6 at *;clear p0 hla c0 c1';have r0 := heap_cell HES3.out.eb.r 0;have r1 := heap_cell HES3.out.eb.r 1;have r2 := heap_cell HES3.out.eb.r 2;have r3 := heap_cell HES3.out.eb.r 3;have r4 := heap_cell HES3.out.eb.r 4;have r5 := heap_cell HES3.out.eb.r 5;have fr := fun i => heap_fz HES3.out.eb.r i
              go_wp2_with fail
              exact end_re rfl rfl rfl rfl (set6_heap HES3.out.eb.r _ _ _ _ _ _) ⟨_, rfl, rvZ _, set6_below HES3.out.eb.bel (by omega) _ _ _ _ _ _⟩
        · obtain rfl : j = n1 := by omega
          have hlt3 : ¬ ((j : Int) < (j : Int)) := by omega
          have hall : cs.drop j = [] := List.drop_of_length_le (by rw [HK.out]; exact Nat.le_refl _);have hev := HEV.out;rw [hall] at hev;obtain ⟨rfl, rfl⟩ : 0 = Ec ∧ q1 = Eq := ⟨congrArg Prod.fst hev, congrArg Prod.snd hev⟩
          clear hall hev;obtain ⟨s3, b3, ao3, n3, c3, s4, b4, ao4, n4, c4, hy, -, -⟩ := rv_form HE2.out.vs;injection hy with hy;injection hy with hy;injection hy with e0 hy;injection hy with e1 hy;injection hy with e2 hy;injection hy with e3 hy;injection hy with e4 hy;injection hy with e5 hy;subst e0 e1 e2 e3 e4 e5;clear hy;have k0 := heap_cell HE2.out.hs 0;have k1 := heap_cell HE2.out.hs 1;have k2 := heap_cell HE2.out.hs 2;have k3 := heap_cell HE2.out.hs 3;have k4 := heap_cell HE2.out.hs 4;have k5 := heap_cell HE2.out.hs 5;have r0 := heap_cell HE2.out.eb.r 0;have r1 := heap_cell HE2.out.eb.r 1;have r2 := heap_cell HE2.out.eb.r 2;have r3 := heap_cell HE2.out.eb.r 3;have r4 := heap_cell HE2.out.eb.r 4;have r5 := heap_cell HE2.out.eb.r 5;have fr := fun i => heap_fz HE2.out.eb.r i
          go_wp2_with fail
          exact end_ri rfl rfl rfl rfl (set6_heap HE2.out.eb.r _ _ _ _ _ _) ⟨_, rfl, HE2.out.vs.but HE2.out.eb.r (by decide) (fun g hg => set6_other hg _ _ _ _ _ _), set6_below HE2.out.eb.bel (by omega) _ _ _ _ _ _⟩
end
end Go.Proofs.YteoklapcifonaaaGreatDoor

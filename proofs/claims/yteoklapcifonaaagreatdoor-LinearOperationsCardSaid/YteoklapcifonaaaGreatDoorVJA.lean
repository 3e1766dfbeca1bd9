/- Valid texts of an expression: its coefficients. -/
import Derived.Test.YteoklapcifonaaaGreatDoorVHA
import Derived.Test.YteoklapcifonaaaGreatDoorVLE
namespace Go.Proofs.YteoklapcifonaaaGreatDoor
open Go.RowKit Nmx
open Go.Lib (compareBytes)
theorem less_to : ∀ a b : List UInt8, Op.bytesLess a b = true → ltB a b
 | [], [], h => by unfold Op.bytesLess at h; cases h
 | _ :: _, [], h => by unfold Op.bytesLess at h; cases h
 | [], _ :: _, _ => rfl
 | x :: a, y :: b, h => by
   unfold Op.bytesLess at h;unfold ltB compareBytes
   by_cases h1 : x < y
   · rw [if_pos h1]
   · by_cases h2 : x = y
     · subst h2;have h3 : Op.bytesLess a b = true := by simpa [h1] using h
       rw [if_neg h1, if_neg h1];have := less_to a b h3;unfold ltB at this;exact this
     · exact absurd h (by simp [h1, h2])
theorem less_no {a b : List UInt8} (h : ¬ ltB a b) : Op.bytesLess (⟨a.toArray⟩ : ByteArray).toList (⟨b.toArray⟩ : ByteArray).toList = false := by
 rw [ByteArray.toList_eq, ByteArray.toList_eq];cases e : Op.bytesLess a b
 · rfl
 · exact absurd (less_to a b e) h
theorem can_adj : ∀ l : List (List UInt8 × Rat), (∀ x ∈ l, x.2 ≠ 0) → (∀ i (h : i + 1 < l.length), ltB (l[i]'(by omega)).1 l[i + 1].1) → Can ltB l
 | [], _, _ => trivial
 | [x], h, _ => ⟨h x (by simp), fun y hy => (List.not_mem_nil hy).elim, trivial⟩
 | x :: y :: l, h1, h2 => by
   have ih := can_adj (y :: l) (fun z hz => h1 z (List.mem_cons_of_mem _ hz)) (fun i hi => h2 (i + 1) (by simp at hi ⊢; omega));have hxy : ltB x.1 y.1 := h2 0 (by simp);refine ⟨h1 x (by simp), fun z hz => ?_, ih⟩;rcases List.mem_cons.1 hz with rfl | hz
   · exact hxy
   · exact ord_ltB.tr hxy (ih.2.1 z hz)
/-- what valid texts say -/
def rcs (rs : List (ByteArray × ByteArray)) : List (List UInt8 × Rat) := rs.map fun x => (x.1.data.toList, (ratF x.2.data.toList).getD 0)
theorem rcs_len (rs : List (ByteArray × ByteArray)) : (rcs rs).length = rs.length := List.length_map _
theorem rcs_at {rs : List (ByteArray × ByteArray)} {i : Nat} (h : i < rs.length) : (rcs rs)[i]'(by rw [rcs_len]; exact h) = (rs[i].1.data.toList, (ratF rs[i].2.data.toList).getD 0) := List.getElem_map _
theorem getD_of {o : Option Rat} (h : o.isSome = true) : o = some (o.getD 0) := by
 cases o with
 | none => cases h
 | some q => rfl
theorem okAt_num {rs : List (ByteArray × ByteArray)} {i : Nat} (h : i < rs.length) (ho : okAt rs i = true) : (ratF rs[i].2.data.toList).isSome = true ∧ rs[i].2.toList ≠ [48] := by
 cases i with
 | zero =>
   rw [okAt_zero h] at ho;simp only [Bool.and_eq_true, Bool.not_eq_true', beq_eq_false_iff_ne] at ho;exact ⟨ho.2, ho.1.2⟩
 | succ j =>
   rw [okAt_succ h] at ho;simp only [Bool.and_eq_true, Bool.not_eq_true', beq_eq_false_iff_ne] at ho;exact ⟨ho.2, ho.1.2⟩
theorem okAt_less {rs : List (ByteArray × ByteArray)} {j : Nat} (h : j + 1 < rs.length) (ho : okAt rs (j + 1) = true) : ltB (rs[j]'(by omega)).1.data.toList rs[j + 1].1.data.toList := by
 rw [okAt_succ h] at ho;simp only [Bool.and_eq_true] at ho;have := ho.1.1.2;rw [ByteArray.toList_eq, ByteArray.toList_eq] at this;exact less_to _ _ this
/-- valid texts: what they say -/
theorem raw_good {s : Int} {rs : List (ByteArray × ByteArray)} {t : ByteArray} (hv : validR s rs t = true) (hS : Shrt rs t) :
    (s = 2 ∨ s = 3) ∧ (∃ p, t = TX p ∧ DS 40 p) ∧ GoodU (rs.map fun x => x.1.data.toList) 40 (rcs rs) ∧ ∀ i (h : i < rs.length), rs[i].2 = TX ((rcs rs)[i]'(by rw [rcs_len]; exact h)).2 := by
 unfold validR at hv;simp only [Bool.and_eq_true, Bool.or_eq_true, beq_iff_eq, List.all_eq_true, List.mem_range] at hv;obtain ⟨⟨h1, h2⟩, h3⟩ := hv
 have hnum : ∀ i (h : i < rs.length), ratF rs[i].2.data.toList = some ((rcs rs)[i]'(by rw [rcs_len]; exact h)).2 := fun i h => by
  rw [rcs_at h];exact getD_of (okAt_num h (h3 i h)).1
 have hmem : ∀ x ∈ rcs rs, ∃ i, ∃ h : i < rs.length, x = (rcs rs)[i]'(by rw [rcs_len]; exact h) := fun x hx => by
  obtain ⟨i, hi, e⟩ := List.mem_iff_getElem.1 hx;exact ⟨i, by rwa [rcs_len] at hi, e.symm⟩
 refine ⟨h1, ⟨(ratF t.data.toList).getD 0, tx_of (getD_of h2), (ds_of (getD_of h2)).mono (by rw [size_data]; exact hS.2.1)⟩, ⟨can_adj _ ?_ ?_, ?_, ?_⟩, fun i h => tx_of (hnum i h)⟩
 · intro x hx e;obtain ⟨i, h, rfl⟩ := hmem x hx;have := hnum i h;rw [e] at this;refine (okAt_num h (h3 i h)).2 ?_;rw [tx_of this, tx_int_zero, ByteArray.toList_eq]
 · intro i hi;have hi' : i + 1 < rs.length := by rwa [rcs_len] at hi
   rw [rcs_at hi', rcs_at (show i < rs.length by omega)];exact okAt_less hi' (h3 (i + 1) hi')
 · intro x hx;obtain ⟨y, hy, rfl⟩ := List.mem_map.1 hx;exact List.mem_map.2 ⟨y, hy, rfl⟩
 · intro x hx;obtain ⟨i, h, rfl⟩ := hmem x hx;exact (ds_of (hnum i h)).mono (by rw [size_data]; exact (hS.2.2 _ (List.getElem_mem h)).2)
theorem raw_csl {w : World} {s : Int} {ao : Option Addr} {g off cap : Nat} {rs : List (ByteArray × ByteArray)} {t : ByteArray} (hC : RSl w ao g off cap rs) (hv : validR s rs t = true) (hS : Shrt rs t) : CSl w ao g off cap (rcs rs) := by
 have hn := (raw_good hv hS).2.2.2;refine ⟨by rw [rcs_len]; exact hC.le, hC.most, hC.ad, fun i hi => ?_, fun i hi => ?_⟩
 · have hi' : i < rs.length := by rwa [rcs_len] at hi
   rw [rcs_at hi', hC.nm i hi']
 · have hi' : i < rs.length := by rwa [rcs_len] at hi
   rw [hC.nu i hi', ← hn i hi']
theorem GoodU.more {U V : List (List UInt8)} {d e : Nat} {cs : List (List UInt8 × Rat)} (h : GoodU U d cs) (hU : ∀ x ∈ U, x ∈ V) (hd : d ≤ e) : GoodU V e cs := ⟨h.can, fun x hx => hU _ (h.nm x hx), fun x hx => (h.ds x hx).mono hd⟩
/-- an expression of such names is handed back -/
def GetsU (U : List (List UInt8)) (s : Int) (d : Nat) (c : Rat) (f : List UInt8 → Rat) (w : World) (e : Ending) (w' : World) : Prop := ∃ rs ao g cap, e = .returned (.agg #[.int .i64 s, .slice ao rs.length cap, .string (TX c)]) ∧ CSl w' ao g 0 cap rs ∧ (rs = [] ∨ ∃ cur fr, w'.heap[g]? = some (.cells cur 79 fr)) ∧ GoodU U d rs ∧ DS d c ∧ (∀ n, cof rs n = f n) ∧ Below w.heap.size w w'
theorem csl_but {w w' : World} {ao : Option Addr} {g off cap : Nat} {cs : List (List UInt8 × Rat)} (h2 : CSl w ao g off cap cs) (h3 : cs = [] ∨ ∃ cur fr, w.heap[g]? = some (.cells cur 79 fr)) {R : Nat} {cells : Array Value} {t : TypeId} {fr : Nat × Nat} (hR : w.heap[R]? = some (.cells cells t fr)) (ht : t ≠ 79) (ho : ∀ g, g ≠ R → w'.heap[g]? = w.heap[g]?) : CSl w' ao g off cap cs ∧ (cs = [] ∨ ∃ cur fr, w'.heap[g]? = some (.cells cur 79 fr)) := by
 refine ⟨⟨h2.le, h2.most, h2.ad, fun i hi => ?_, fun i hi => ?_⟩, ?_⟩
 rotate_left 2
 · refine h3.imp id fun ⟨cur, fr', h3⟩ => ⟨cur, fr', ?_⟩
   rw [ho g fun e => by rw [e, hR] at h3; cases h3; exact ht rfl];exact h3
 all_goals
  rcases h3 with rfl | ⟨cur, fr', h3⟩
  · exact absurd hi (by simp)
  · have hne : g ≠ R := fun e => by rw [e, hR] at h3; cases h3; exact ht rfl
    rw [World.cell?_of_block (w := w) (w' := w') (a := ⟨g, _, none⟩) (ho g hne)]
    first | exact h2.nm i hi | exact h2.nu i hi
end Go.Proofs.YteoklapcifonaaaGreatDoor

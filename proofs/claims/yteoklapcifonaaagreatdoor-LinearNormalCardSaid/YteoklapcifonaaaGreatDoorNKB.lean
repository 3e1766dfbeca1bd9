/- Valid texts of an expression: its coefficients. -/
import Derived.Test.YteoklapcifonaaaGreatDoorNHC
import Derived.Test.YteoklapcifonaaaGreatDoorNLE
import Derived.Test.YteoklapcifonaaaGreatDoorNMI
namespace Go.Proofs.YteoklapcifonaaaGreatDoor
open Go.RowKit Nmx
open Go.Lib (compareBytes)
theorem less_to : ∀ a b : List UInt8, Op.bytesLess a b = true → ltB a b
 | [], [], h => by unfold Op.bytesLess at h; cases h
 | _ :: _, [], h => by unfold Op.bytesLess at h; cases h
 | [], _ :: _, _ => rfl
 | x :: a, y :: b, h => by
   unfold Op.bytesLess at h;unfold ltB compareBytes
   by_cases h1 : x < y
   · rw [if_pos h1]
   · by_cases h2 : x = y
     · subst h2;have h3 : Op.bytesLess a b = true := by simpa [h1] using h
       rw [if_neg h1, if_neg h1];have := less_to a b h3;unfold ltB at this;exact this
     · exact absurd h (by simp [h1, h2])
theorem can_adj : ∀ l : List (List UInt8 × Rat), (∀ x ∈ l, x.2 ≠ 0) → (∀ i (h : i + 1 < l.length), ltB (l[i]'(by omega)).1 l[i + 1].1) → Can ltB l
 | [], _, _ => trivial
 | [x], h, _ => ⟨h x (by simp), fun y hy => (List.not_mem_nil hy).elim, trivial⟩
 | x :: y :: l, h1, h2 => by
   have ih := can_adj (y :: l) (fun z hz => h1 z (List.mem_cons_of_mem _ hz)) (fun i hi => h2 (i + 1) (by simp at hi ⊢; omega));have hxy : ltB x.1 y.1 := h2 0 (by simp);refine ⟨h1 x (by simp), fun z hz => ?_, ih⟩;rcases List.mem_cons.1 hz with rfl | hz
   · exact hxy
   · exact ord_ltB.tr hxy (ih.2.1 z hz)
/-- what valid texts say -/
def rcs (rs : List (ByteArray × ByteArray)) : List (List UInt8 × Rat) := rs.map fun x => (x.1.data.toList, (ap x.2.data.toList).getD 0)
theorem rcs_len (rs : List (ByteArray × ByteArray)) : (rcs rs).length = rs.length := List.length_map _
theorem rcs_at {rs : List (ByteArray × ByteArray)} {i : Nat} (h : i < rs.length) : (rcs rs)[i]'(by rw [rcs_len]; exact h) = (rs[i].1.data.toList, (ap rs[i].2.data.toList).getD 0) := List.getElem_map _
theorem getD_of {o : Option Rat} (h : o.isSome = true) : o = some (o.getD 0) := by
 cases o with
 | none => cases h
 | some q => rfl
theorem okAt_num {rs : List (ByteArray × ByteArray)} {i : Nat} (h : i < rs.length) (ho : okAt rs i = true) : (ap rs[i].2.data.toList).isSome = true ∧ rs[i].2.toList ≠ [48] := by
 cases i with
 | zero =>
   rw [okAt_zero h] at ho;simp only [Bool.and_eq_true, Bool.not_eq_true', beq_eq_false_iff_ne] at ho;exact ⟨ho.2, ho.1.2⟩
 | succ j =>
   rw [okAt_succ h] at ho;simp only [Bool.and_eq_true, Bool.not_eq_true', beq_eq_false_iff_ne] at ho;exact ⟨ho.2, ho.1.2⟩
theorem okAt_less {rs : List (ByteArray × ByteArray)} {j : Nat} (h : j + 1 < rs.length) (ho : okAt rs (j + 1) = true) : ltB (rs[j]'(by omega)).1.data.toList rs[j + 1].1.data.toList := by
 rw [okAt_succ h] at ho;simp only [Bool.and_eq_true] at ho;have := ho.1.1.2;rw [ByteArray.toList_eq, ByteArray.toList_eq] at this;exact less_to _ _ this
/-- valid texts: what they say -/
theorem raw_good {s : Int} {rs : List (ByteArray × ByteArray)} {t : ByteArray} (hv : bM s rs t = true) (hS : Shrt rs t) :
    (s = 2 ∨ s = 3) ∧ (∃ p, t = TX p ∧ DS 40 p) ∧ GoodU (rs.map fun x => x.1.data.toList) 40 (rcs rs) ∧ ∀ i (h : i < rs.length), rs[i].2 = TX ((rcs rs)[i]'(by rw [rcs_len]; exact h)).2 := by
 unfold bM at hv;simp only [Bool.and_eq_true, Bool.or_eq_true, beq_iff_eq, List.all_eq_true, List.mem_range] at hv;obtain ⟨⟨h1, h2⟩, h3⟩ := hv
 have hnum : ∀ i (h : i < rs.length), ap rs[i].2.data.toList = some ((rcs rs)[i]'(by rw [rcs_len]; exact h)).2 := fun i h => by
  rw [rcs_at h];exact getD_of (okAt_num h (h3 i h)).1
 have hmem : ∀ x ∈ rcs rs, ∃ i, ∃ h : i < rs.length, x = (rcs rs)[i]'(by rw [rcs_len]; exact h) := fun x hx => by
  obtain ⟨i, hi, e⟩ := List.mem_iff_getElem.1 hx;exact ⟨i, by rwa [rcs_len] at hi, e.symm⟩
 refine ⟨h1, ⟨(ap t.data.toList).getD 0, tx_of (getD_of h2), (ds_of (getD_of h2)).mono (by rw [size_data]; exact hS.2.1)⟩, ⟨can_adj _ ?_ ?_, ?_, ?_⟩, fun i h => tx_of (hnum i h)⟩
 · intro x hx e;obtain ⟨i, h, rfl⟩ := hmem x hx;have := hnum i h;rw [e] at this;refine (okAt_num h (h3 i h)).2 ?_;rw [tx_of this, tx_int_zero, ByteArray.toList_eq]
 · intro i hi;have hi' : i + 1 < rs.length := by rwa [rcs_len] at hi
   rw [rcs_at hi', rcs_at (show i < rs.length by omega)];exact okAt_less hi' (h3 (i + 1) hi')
 · intro x hx;obtain ⟨y, hy, rfl⟩ := List.mem_map.1 hx;exact List.mem_map.2 ⟨y, hy, rfl⟩
 · intro x hx;obtain ⟨i, h, rfl⟩ := hmem x hx;exact (ds_of (hnum i h)).mono (by rw [size_data]; exact (hS.2.2 _ (List.getElem_mem h)).2)
theorem raw_csl {w : World} {s : Int} {ao : Option Addr} {g off cap : Nat} {rs : List (ByteArray × ByteArray)} {t : ByteArray} (hC : RSl w ao g off cap rs) (hv : bM s rs t = true) (hS : Shrt rs t) : CSl w ao g off cap (rcs rs) := by
 have hn := (raw_good hv hS).2.2.2;refine ⟨by rw [rcs_len]; exact hC.le, hC.most, hC.ad, fun i hi => ?_, fun i hi => ?_⟩
 · have hi' : i < rs.length := by rwa [rcs_len] at hi
   rw [rcs_at hi', hC.nm i hi']
 · have hi' : i < rs.length := by rwa [rcs_len] at hi
   rw [hC.nu i hi', ← hn i hi']
theorem csl_but {w w' : World} {ao : Option Addr} {g off cap : Nat} {cs : List (List UInt8 × Rat)} (h2 : CSl w ao g off cap cs) (h3 : cs = [] ∨ ∃ cur fr, w.heap[g]? = some (.cells cur 79 fr)) {R : Nat} {cells : Array Value} {t : TypeId} {fr : Nat × Nat} (hR : w.heap[R]? = some (.cells cells t fr)) (ht : t ≠ 79) (ho : ∀ g, g ≠ R → w'.heap[g]? = w.heap[g]?) : CSl w' ao g off cap cs ∧ (cs = [] ∨ ∃ cur fr, w'.heap[g]? = some (.cells cur 79 fr)) := by
 refine ⟨⟨h2.le, h2.most, h2.ad, fun i hi => ?_, fun i hi => ?_⟩, ?_⟩
 rotate_left 2
 · refine h3.imp id fun ⟨cur, fr', h3⟩ => ⟨cur, fr', ?_⟩
   rw [ho g fun e => by rw [e, hR] at h3; cases h3; exact ht rfl];exact h3
 all_goals
  rcases h3 with rfl | ⟨cur, fr', h3⟩
  · exact absurd hi (by simp)
  · have hne : g ≠ R := fun e => by rw [e, hR] at h3; cases h3; exact ht rfl
    rw [World.cell?_of_block (w := w) (w' := w') (a := ⟨g, _, none⟩) (ho g hne)]
    first | exact h2.nm i hi | exact h2.nu i hi
end Go.Proofs.YteoklapcifonaaaGreatDoor
/- The normal form of a constraint is one; raw constraints that are valid. -/
namespace Go.Proofs.YteoklapcifonaaaGreatDoor
open Go.RowKit Nmx
/-- what the normal form is -/
def NN (r s : Int) (p : Rat) (cs : List (List UInt8 × Rat)) (M : Option Int) (r' : Int) (c' : Rat) (f' : List UInt8 → Rat) (tm' : ByteArray) : Prop := match M with
 | none => NF r s p cs r' c' f' ∧ tm' = ⟨#[]⟩
 | some m => DF r m p cs r' c' f' tm'
theorem NF.uniq {r s : Int} {p : Rat} {cs : List (List UInt8 × Rat)} {r1 r2 : Int} {c1 c2 : Rat} {f1 f2 : List UInt8 → Rat} (h1 : NF r s p cs r1 c1 f1) (h2 : NF r s p cs r2 c2 f2) : r1 = r2 ∧ c1 = c2 ∧ f1 = f2 := by
 unfold NF at h1 h2
 rcases h1 with ⟨a, b1, b2, b3⟩ | ⟨a, ⟨q1, b1, b2, b3⟩ | ⟨q1, q2, b1, b2, b3⟩ | ⟨q1, q2, b1, b2, b3⟩ | ⟨q1, q2, q3, b1, b2, b3⟩ | ⟨q1, q2, q3, b1, b2, b3⟩⟩ <;>
  rcases h2 with ⟨a', b1', b2', b3'⟩ | ⟨a', ⟨q1', b1', b2', b3'⟩ | ⟨q1', q2', b1', b2', b3'⟩ | ⟨q1', q2', b1', b2', b3'⟩ | ⟨q1', q2', q3', b1', b2', b3'⟩ | ⟨q1', q2', q3', b1', b2', b3'⟩⟩ <;>
  first
  | exact absurd a a'
  | exact absurd a' a
  | (exfalso; omega)
  | exact absurd q3 q3'
  | exact absurd q3' q3
  | exact ⟨b1.trans b1'.symm, b2.trans b2'.symm, b3.trans b3'.symm⟩
theorem DF.uniq {r m : Int} {p : Rat} {l : List (List UInt8 × Rat)} {r1 r2 : Int} {c1 c2 : Rat} {f1 f2 : List UInt8 → Rat} {t1 t2 : ByteArray} (h1 : DF r m p l r1 c1 f1 t1) (h2 : DF r m p l r2 c2 f2 t2) : r1 = r2 ∧ c1 = c2 ∧ f1 = f2 ∧ t1 = t2 := by
 unfold DF at h1 h2;obtain ⟨F, zM, g, rfl, rfl, rfl, h1⟩ := h1;obtain ⟨F', zM', g', rfl, rfl, rfl, h2⟩ := h2
 rcases h1 with ⟨q, b1, b2, b3, b4⟩ | ⟨q, q2, b1, b2, b3, b4⟩ | ⟨q, q2, b1, b2, b3, b4⟩ <;>
  rcases h2 with ⟨q', b1', b2', b3', b4'⟩ | ⟨q', q2', b1', b2', b3', b4'⟩ | ⟨q', q2', b1', b2', b3', b4'⟩ <;>
  first
  | exact absurd q q'
  | exact absurd q' q
  | exact absurd q2 q2'
  | exact absurd q2' q2
  | exact ⟨b1.trans b1'.symm, b2.trans b2'.symm, b3.trans b3'.symm, b4.trans b4'.symm⟩
theorem NN.uniq {r s : Int} {p : Rat} {cs : List (List UInt8 × Rat)} {M : Option Int} {r1 r2 : Int} {c1 c2 : Rat} {f1 f2 : List UInt8 → Rat} {t1 t2 : ByteArray} (h1 : NN r s p cs M r1 c1 f1 t1) (h2 : NN r s p cs M r2 c2 f2 t2) : r1 = r2 ∧ c1 = c2 ∧ f1 = f2 ∧ t1 = t2 := by
 cases M with
 | none =>
   obtain ⟨a, b, c⟩ := NF.uniq h1.1 h2.1;exact ⟨a, b, c, h1.2.trans h2.2.symm⟩
 | some m => exact DF.uniq h1 h2
/-- it comes back, and no error -/
def GetsNN [Nms] (r s : Int) (tm : ByteArray) (d : Nat) (c : Rat) (f : List UInt8 → Rat) (w : World) (e : Ending) (w' : World) : Prop := ∃ rs ao n cp tx, e = .returned (.tuple #[.agg #[.int .i64 r, .int .i64 s, .slice ao n cp, .string tx, .string tm], .int .i64 0]) ∧ LV w' (.agg #[.int .i64 s, .slice ao n cp, .string tx]) s d c rs ∧ (∀ n, cof rs n = f n) ∧ Below w.heap.size w w'
/-- no constraint -/
def zeroCV : Value := .agg #[.int .i64 0, .int .i64 0, .slice none 0 0, .string ⟨#[]⟩, .string ⟨#[]⟩]
/-- what Normal hands back: an error at a constraint that is not valid, or the normal form -/
def NormP [Nms] (V : Bool) (r s : Int) (p : Rat) (cs : List (List UInt8 × Rat)) (M : Option Int) (D : Nat) (w : World) (e : Ending) (w' : World) : Prop :=
 (V = false ∧ e = .returned (.tuple #[zeroCV, .int .i64 1]) ∧ Below w.heap.size w w') ∨
 (V = true ∧ ∃ r' c' f' tm', NN r s p cs M r' c' f' tm' ∧ GetsNN r' s tm' D c' f' w e w')
/-- the names of an expression that came in -/
abbrev rawN (rs : List (ByteArray × ByteArray)) (h : rs.length ≤ 8) : Nms := ⟨rs.map fun x => x.1.data.toList, by rw [List.length_map]; exact h⟩
/-- its constant -/
def rawC (t : ByteArray) : Rat := (ap t.data.toList).getD 0
/-- its modulus -/
def rawM (r : Int) (tm : ByteArray) : Option Int := if r = 4 ∨ r = 5 then some ((ap tm.data.toList).getD 0).num else none
theorem raw_lin {w : World} {s : Int} {ao : Option Addr} {g off cap : Nat} {rs : List (ByteArray × ByteArray)} {t : ByteArray} (hC : RSl w ao g off cap rs) (hv : bM s rs t = true) (hS : Shrt rs t) :
    @LVi (rawN rs hS.1) w (.agg #[.int .i64 s, .slice ao rs.length cap, .string t]) s 40 (rawC t) (rcs rs) := by
 have hc := raw_csl hC hv hS;obtain ⟨-, ⟨p, ht, hp⟩, hg, -⟩ := raw_good hv hS;have hpc : rawC t = p := by unfold rawC; rw [ht, tx_ratF]; rfl
 refine ⟨ao, g, off, cap, ?_, hc, trivial, ?_, by rw [hpc]; exact hp⟩
 · rw [rcs_len, hpc, ← ht]
 · exact @GoodU.gd (rawN rs hS.1) _ _ hg
theorem raw_con {r s : Int} {rs : List (ByteArray × ByteArray)} {t tm : ByteArray} (hv : conV (bM s rs t) r s tm = true) (hm : tm.size ≤ 40) : bM s rs t = true ∧ (s = 2 ∨ s = 3) ∧ tm = TXo (rawM r tm) ∧ ConM r s 40 (rawM r tm) := by
 unfold conV at hv;simp only [Bool.and_eq_true] at hv;obtain ⟨h1, h2⟩ := hv
 have hs : s = 2 ∨ s = 3 := by
  have h := h1;unfold bM at h;simp only [Bool.and_eq_true, Bool.or_eq_true, beq_iff_eq] at h;exact h.1.1
 refine ⟨h1, hs, ?_⟩
 by_cases h3 : r = 1 ∨ r = 2 ∨ r = 3
 · rw [if_pos h3] at h2
   have e : tm = ⟨#[]⟩ := by
    have := beq_iff_eq.1 h2;rw [ByteArray.toList_eq] at this;exact ba_eq _ _ this
   have hM : rawM r tm = none := by unfold rawM; rw [if_neg (by omega)]
   rw [hM];exact ⟨e, hs, h3⟩
 · rw [if_neg h3] at h2
   by_cases h4 : r = 4 ∨ r = 5
   · rw [if_pos h4] at h2;simp only [Bool.and_eq_true, beq_iff_eq, decide_eq_true_eq] at h2;obtain ⟨⟨h5, h6⟩, h7⟩ := h2;unfold intB at h6;unfold sgB at h7;cases hq : ap tm.data.toList with
     | none => rw [hq] at h6; exact absurd h6 (by simp)
     | some q =>
       rw [hq] at h6 h7;have hd : q.den = 1 := of_decide_eq_true h6;have hq1 : q = ((q.num : Int) : Rat) := rat_int hd;have hM : rawM r tm = some q.num := by unfold rawM; rw [if_pos h4, hq]; rfl
       rw [hM]
       have hpos : 1 ≤ q.num := by
        have : 0 < bc q.num := h7;unfold bc at this
        split at this
        · omega
        · split at this <;> omega
       refine ⟨?_, h5, h4, hpos, ?_⟩
       · show tm = TX ((q.num : Int) : Rat);rw [← hq1]; exact tx_of hq
       · rw [← hq1]; exact (ds_of hq).mono (by rw [size_data]; exact hm)
   · rw [if_neg h4] at h2; exact absurd h2 (by simp)
end Go.Proofs.YteoklapcifonaaaGreatDoor

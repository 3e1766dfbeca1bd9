/- What the texts of LinearSolve want besides. -/
import Derived.Test.YtgfoljpjdmeooaaGreatDoorWRE
import Derived.Test.YtgfoljpjdmeooaaGreatDoorWRG
import Derived.Test.YtgfoljpjdmeooaaGreatDoorWLE
import Derived.Test.YtgfoljpjdmeooaaGreatDoorWLJ
import Derived.Test.YtgfoljpjdmeooaaGreatDoorWLY
import Derived.Test.YtgfoljpjdmeooaaGreatDoorWLU
import Derived.Test.YtgfoljpjdmeooaaGreatDoorWMH
import Derived.Test.YtgfoljpjdmeooaaGreatDoorWMC
import Derived.Test.YtgfoljpjdmeooaaGreatDoorWNT
import Derived.Test.YtgfoljpjdmeooaaGreatDoorWLM
namespace Go.Proofs.YtgfoljpjdmeooaaGreatDoor
open Go.RowKit Nmx
section
set_option maxRecDepth 100000 in
set_option maxHeartbeats 8000000 in
theorem PS.one {q : Rat} {neg : Bool} {nb db : ByteArray} (h : PS q neg nb db) : (db.toList == [49]) = decide (q.den = 1) := by
  rw [ByteArray.toList_eq, h.2.2, Bool.eq_iff_iff, beq_iff_eq, decN_eq_one, decide_eq_true_eq]
end
end Go.Proofs.YtgfoljpjdmeooaaGreatDoor
namespace Go.Proofs.YtgfoljpjdmeooaaGreatDoor
open Go.RowKit Nmx
section
set_option maxRecDepth 100000 in
set_option maxHeartbeats 8000000 in
def isI (l : List UInt8) : Bool := match ratF l with | some q => decide (q.den = 1) | none => false
end
end Go.Proofs.YtgfoljpjdmeooaaGreatDoor
namespace Go.Proofs.YtgfoljpjdmeooaaGreatDoor
open Go.RowKit Nmx
section
set_option maxRecDepth 100000 in
set_option maxHeartbeats 8000000 in
def sgO (l : List UInt8) : Int := sgnI ((ratF l).getD 0).num
end
end Go.Proofs.YtgfoljpjdmeooaaGreatDoor
namespace Go.Proofs.YtgfoljpjdmeooaaGreatDoor
open Go.RowKit Nmx
section
set_option maxRecDepth 100000 in
set_option maxHeartbeats 8000000 in
theorem refValid_any (s : ByteArray) (w : World) (hs : s.size ≤ 90000) : Calls Tryz.prog 59 #[.string s] w fun e w' => e = .returned (.bool (ratF s.data.toList).isSome) ∧ Below w.heap.size w w' := by
  cases hq : ratF s.data.toList with
  | none =>
    have hp := parseNone s hs hq w
    clear hq
    go_enter Tryz.func59, Tryz.ntmps59
    go_wp2_with fail
    refine hp.mono ?_
    rintro e w1 ⟨rfl, hb1⟩
    have HB := Lib.hid hb1
    clear hb1 hp
    go_wp2
    go_ret
    exact ⟨rfl, HB.out.alloc HB.out.size _⟩
  | some q =>
    obtain ⟨neg, nb, db, -, -, -, hp⟩ := parseSome s hs hq
    have hp := hp w
    clear hq
    go_enter Tryz.func59, Tryz.ntmps59
    go_wp2_with fail
    refine hp.mono ?_
    rintro e w1 ⟨rfl, hb1⟩
    have HB := Lib.hid hb1
    clear hb1 hp
    go_wp2
    go_ret
    exact ⟨rfl, HB.out.alloc HB.out.size _⟩
end
end Go.Proofs.YtgfoljpjdmeooaaGreatDoor
namespace Go.Proofs.YtgfoljpjdmeooaaGreatDoor
open Go.RowKit Nmx
section
set_option maxRecDepth 100000 in
set_option maxHeartbeats 8000000 in
theorem refIsInt_any (s : ByteArray) (w : World) (hs : s.size ≤ 90000) : Calls Tryz.prog 62 #[.string s] w fun e w' => e = .returned (.bool (isI s.data.toList)) ∧ Below w.heap.size w w' := by
  cases hq : ratF s.data.toList with
  | none =>
    have hp := parseNone s hs hq w
    have HI : Hid (isI s.data.toList = false) := Lib.hid (by unfold isI; rw [hq])
    clear hq
    go_enter Tryz.func62, Tryz.ntmps62
    go_wp2_with fail
    refine hp.mono ?_
    rintro e w1 ⟨rfl, hb1⟩
    have HB := Lib.hid hb1
    clear hb1 hp
    go_wp2
    go_ret
    exact ⟨ret_bool HI.out.symm, HB.out.alloc HB.out.size _⟩
  | some q =>
    obtain ⟨neg, nb, db, hps, -, -, hp⟩ := parseSome s hs hq
    have hp := hp w
    have hd := hps.one
    have HI : Hid (isI s.data.toList = decide (q.den = 1)) := Lib.hid (by unfold isI; rw [hq])
    clear hq hps
    generalize decide (q.den = 1) = bb at *
    go_enter Tryz.func62, Tryz.ntmps62
    go_wp2_with fail
    refine hp.mono ?_
    rintro e w1 ⟨rfl, hb1⟩
    have HB := Lib.hid hb1
    clear hb1 hp
    go_wp2
    go_ret
    exact ⟨ret_bool HI.out.symm, HB.out.alloc HB.out.size _⟩
end
end Go.Proofs.YtgfoljpjdmeooaaGreatDoor
namespace Go.Proofs.YtgfoljpjdmeooaaGreatDoor
open Go.RowKit Nmx
section
set_option maxRecDepth 100000 in
set_option maxHeartbeats 8000000 in
theorem refSign_any (s : ByteArray) (w : World) (hs : s.size ≤ 90000) : Calls Tryz.prog 63 #[.string s] w fun e w' => e = .returned (.int .i64 (sgO s.data.toList)) ∧ Below w.heap.size w w' := by
  cases hq : ratF s.data.toList with
  | none =>
    have hp := parseNone s hs hq w
    have HI : Hid (sgO s.data.toList = 0) := Lib.hid (by unfold sgO; rw [hq]; rfl)
    clear hq
    go_enter Tryz.func63, Tryz.ntmps63
    go_wp2_with fail
    refine hp.mono ?_
    rintro e w1 ⟨rfl, hb1⟩
    have HB := Lib.hid hb1
    clear hb1 hp
    go_wp2
    go_ret
    exact ⟨ret_int HI.out.symm, HB.out.alloc HB.out.size _⟩
  | some q =>
    obtain ⟨neg, nb, db, hps, -, -, hp⟩ := parseSome s hs hq
    have hp := hp w
    have hz := hps.zero
    have HG : Hid (neg = decide (q.num < 0)) := Lib.hid hps.1
    have HI : Hid (sgO s.data.toList = sgnI q.num) := Lib.hid (by unfold sgO; rw [hq]; rfl)
    clear hq hps
    by_cases h0 : q.num = 0
    · rw [decide_eq_true h0] at hz
      have HS : Hid (sgnI q.num = 0) := Lib.hid (by rw [h0]; rfl)
      clear h0
      go_enter Tryz.func63, Tryz.ntmps63
      go_wp2_with fail
      refine hp.mono ?_
      rintro e w1 ⟨rfl, hb1⟩
      have HB := Lib.hid hb1
      clear hb1 hp
      go_wp2
      go_ret
      exact ⟨ret_int (by rw [HI.out, HS.out]), HB.out.alloc HB.out.size _⟩
    · rw [decide_eq_false h0] at hz
      cases neg
      · have HS : Hid (sgnI q.num = 1) := Lib.hid (by have := HG.out; have h1 : ¬ q.num < 0 := by simpa using this.symm
                                                      unfold sgnI; rw [if_neg h1, if_pos (by omega)])
        clear h0
        go_enter Tryz.func63, Tryz.ntmps63
        go_wp2_with fail
        refine hp.mono ?_
        rintro e w1 ⟨rfl, hb1⟩
        have HB := Lib.hid hb1
        clear hb1 hp
        go_wp2
        go_ret
        exact ⟨ret_int (by rw [HI.out, HS.out]), HB.out.alloc HB.out.size _⟩
      · have HS : Hid (sgnI q.num = -1) := Lib.hid (by have := HG.out; have h1 : q.num < 0 := by simpa using this.symm
                                                       unfold sgnI; rw [if_pos h1])
        clear h0
        go_enter Tryz.func63, Tryz.ntmps63
        go_wp2_with fail
        refine hp.mono ?_
        rintro e w1 ⟨rfl, hb1⟩
        have HB := Lib.hid hb1
        clear hb1 hp
        go_wp2
        go_ret
        exact ⟨ret_int (by rw [HI.out, HS.out]), HB.out.alloc HB.out.size _⟩
end
end Go.Proofs.YtgfoljpjdmeooaaGreatDoor
namespace Go.Proofs.YtgfoljpjdmeooaaGreatDoor
open Go.RowKit Nmx
section
set_option maxRecDepth 100000 in
set_option maxHeartbeats 8000000 in
theorem refValidT {d : Nat} {p : Rat} (hp : DS d p) (hd : d ≤ 40000) (W : World) : Calls Tryz.prog 59 #[.string (TX p)] W fun e w' => e = .returned (.bool true) ∧ Below W.heap.size W w' := by
  have h := refValid_any (TX p) W (by have := DS.sz hp; omega)
  rw [tx_ratF] at h; exact h
end
end Go.Proofs.YtgfoljpjdmeooaaGreatDoor
namespace Go.Proofs.YtgfoljpjdmeooaaGreatDoor
open Go.RowKit Nmx
section
set_option maxRecDepth 100000 in
set_option maxHeartbeats 8000000 in
theorem refIsIntT {d : Nat} {p : Rat} (hp : DS d p) (hd : d ≤ 40000) (W : World) : Calls Tryz.prog 62 #[.string (TX p)] W fun e w' => e = .returned (.bool (decide (p.den = 1))) ∧ Below W.heap.size W w' := by
  have h := refIsInt_any (TX p) W (by have := DS.sz hp; omega)
  unfold isI at h
  rw [tx_ratF] at h; exact h
end
end Go.Proofs.YtgfoljpjdmeooaaGreatDoor
namespace Go.Proofs.YtgfoljpjdmeooaaGreatDoor
open Go.RowKit Nmx
section
set_option maxRecDepth 100000 in
set_option maxHeartbeats 8000000 in
theorem refSignT {d : Nat} {p : Rat} (hp : DS d p) (hd : d ≤ 40000) (W : World) : Calls Tryz.prog 63 #[.string (TX p)] W fun e w' => e = .returned (.int .i64 (sgnI p.num)) ∧ Below W.heap.size W w' := by
  have h := refSign_any (TX p) W (by have := DS.sz hp; omega)
  unfold sgO at h
  rw [tx_ratF] at h; exact h
end
end Go.Proofs.YtgfoljpjdmeooaaGreatDoor
namespace Go.Proofs.YtgfoljpjdmeooaaGreatDoor
open Go.RowKit Nmx
section
set_option maxRecDepth 100000 in
set_option maxHeartbeats 8000000 in
theorem words_trans {w w1 w2 : World} (h : Words w w1) (h2 : Words w1 w2) : Words w w2 := fun g cs fr hg => h2 g cs fr (h g cs fr hg)
end
end Go.Proofs.YtgfoljpjdmeooaaGreatDoor
namespace Go.Proofs.YtgfoljpjdmeooaaGreatDoor
open Go.RowKit Nmx
section
set_option maxRecDepth 100000 in
set_option maxHeartbeats 8000000 in
def GetsLE (s : Int) (d : Nat) (c : Rat) (f : List UInt8 → Rat) (w : World) (e : Ending) (w' : World) : Prop := ∃ rs v, e = .returned (.tuple #[v, .int .i64 0]) ∧ LV w' v s d c rs ∧ (∀ n, cof rs n = f n) ∧ Below w.heap.size w w'
end
end Go.Proofs.YtgfoljpjdmeooaaGreatDoor
namespace Go.Proofs.YtgfoljpjdmeooaaGreatDoor
open Go.RowKit Nmx
section
set_option maxRecDepth 100000 in
set_option maxHeartbeats 8000000 in
theorem validC {d : Nat} {w : World} {r s : Int} {a1 : Option Addr} {n1 c1 : Nat} {t1 tm : ByteArray} {p : Rat} {cs : List (List UInt8 × Rat)} (h : LV w (.agg #[.int .i64 s, .slice a1 n1 c1, .string t1]) s d p cs) (hk : ConOk r s tm) (hd : d ≤ 3000) (hE : Env w) :
    Calls Tryz.prog 27 #[.agg #[.int .i64 r, .int .i64 s, .slice a1 n1 c1, .string t1, .string tm]] w fun e w' => e = .returned (.bool true) ∧ Below w.heap.size w w' := by
  rcases hk with ⟨hs, ⟨h1, h2, rfl⟩ | ⟨h1, h2, rfl, m, hm1, hm2, rfl⟩⟩
  · exact validCmp h hs (by omega) hd hE
  · exact validDiv h (by omega) hm1 ((ds_small hm1 hm2).mono (by decide)) hd hE
end
end Go.Proofs.YtgfoljpjdmeooaaGreatDoor
namespace Go.Proofs.YtgfoljpjdmeooaaGreatDoor
open Go.RowKit Nmx
section
set_option maxRecDepth 100000 in
set_option maxHeartbeats 8000000 in
theorem modS (a b : Int) (w : World) (hb : 1 ≤ b) (hb2 : b ≤ 1000000000000000000) : Calls Tryz.prog 9 #[.int .i64 a, .int .i64 b] w fun e w1 => ∃ m, 0 ≤ m ∧ m < b ∧ e = .returned (.int .i64 m) ∧ w1 = w :=
  (mod_q a b w hb hb2).mono fun _ _ h => ⟨modF a b, by unfold modF; exact Int.emod_nonneg _ (by omega), by unfold modF; exact Int.emod_lt_of_pos _ (by omega), h.1, h.2⟩
end
end Go.Proofs.YtgfoljpjdmeooaaGreatDoor
namespace Go.Proofs.YtgfoljpjdmeooaaGreatDoor
open Go.RowKit Nmx
section
set_option maxRecDepth 100000 in
set_option maxHeartbeats 8000000 in
structure CX (w : World) (S : Nat) (r s : Int) (ao : Option Addr) (n cap : Nat) (tx tm : ByteArray) (d : Nat) (c : Rat) (cs : List (List UInt8 × Rat)) : Prop where
  h : w.heap[S]? = some (.cells #[.int .i64 r, .int .i64 s, .slice ao n cap, .string tx, .string tm] 39 (0, 0))
  l : LV w (.agg #[.int .i64 s, .slice ao n cap, .string tx]) s d c cs
end
end Go.Proofs.YtgfoljpjdmeooaaGreatDoor
namespace Go.Proofs.YtgfoljpjdmeooaaGreatDoor
open Go.RowKit Nmx
section
variable {w w' : World} {S : Nat} {r s : Int} {ao : Option Addr} {n cap : Nat} {tx tm : ByteArray} {d : Nat} {c : Rat} {cs : List (List UInt8 × Rat)}
set_option maxRecDepth 100000 in
set_option maxHeartbeats 8000000 in
theorem CX.far (h : CX w S r s ao n cap tx tm d c cs) (hb : Below w.heap.size w w') : CX w' S r s ao n cap tx tm d c cs := ⟨(hb.block _ (lt_of_heap h.h)).trans h.h, h.l.far hb⟩
end
end Go.Proofs.YtgfoljpjdmeooaaGreatDoor
namespace Go.Proofs.YtgfoljpjdmeooaaGreatDoor
open Go.RowKit Nmx
section
variable {w w' : World} {S : Nat} {r s : Int} {ao : Option Addr} {n cap : Nat} {tx tm : ByteArray} {d : Nat} {c : Rat} {cs : List (List UInt8 × Rat)}
set_option maxRecDepth 100000 in
set_option maxHeartbeats 8000000 in
theorem CX.new (h : LV w (.agg #[.int .i64 s, .slice ao n cap, .string tx]) s d c cs) : CX (w.alloc (.cells #[.int .i64 r, .int .i64 s, .slice ao n cap, .string tx, .string tm] 39)) w.heap.size r s ao n cap tx tm d c cs :=
  ⟨heap_alloc_new w _, h.far (alloc_far w _)⟩
end
end Go.Proofs.YtgfoljpjdmeooaaGreatDoor
namespace Go.Proofs.YtgfoljpjdmeooaaGreatDoor
open Go.RowKit Nmx
section
variable {w w' : World} {S : Nat} {r s : Int} {ao : Option Addr} {n cap : Nat} {tx tm : ByteArray} {d : Nat} {c : Rat} {cs : List (List UInt8 × Rat)}
set_option maxRecDepth 100000 in
set_option maxHeartbeats 8000000 in
theorem CX.but (h : CX w S r s ao n cap tx tm d c cs) {T : Nat} {xs : Array Value} (hT : w.heap[T]? = some (.cells xs 39 (0, 0))) (hne : S ≠ T) (ho : ∀ g, g ≠ T → w'.heap[g]? = w.heap[g]?) : CX w' S r s ao n cap tx tm d c cs :=
  ⟨(ho _ hne).trans h.h, h.l.but hT (by decide) ho⟩
end
end Go.Proofs.YtgfoljpjdmeooaaGreatDoor

/- Constraints that differ by a positive factor: the walk of the statement. -/
import Derived.Test.YtgfoljpjdmeooaaGreatDoorWMI
import Derived.Test.YtgfoljpjdmeooaaGreatDoorWLY
import Derived.Test.YtgfoljpjdmeooaaGreatDoorWLU
namespace Go.Proofs.YtgfoljpjdmeooaaGreatDoor
open Go.RowKit Nmx

/-- what the normal form is -/
def NN (r s : Int) (p : Rat) (cs : List (List UInt8 × Rat)) (M : Option Int) (r' : Int) (c' : Rat) (f' : List UInt8 → Rat) (tm' : ByteArray) : Prop := match M with
  | none => NF r s p cs r' c' f' ∧ tm' = ⟨#[]⟩
  | some m => DF r m p cs r' c' f' tm'
/-- it comes back, and no error -/
def GetsNN (r s : Int) (tm : ByteArray) (d : Nat) (c : Rat) (f : List UInt8 → Rat) (w : World) (e : Ending) (w' : World) : Prop := ∃ rs ao n cp tx, e = .returned (.tuple #[.agg #[.int .i64 r, .int .i64 s, .slice ao n cp, .string tx, .string tm], .int .i64 0]) ∧ LV w' (.agg #[.int .i64 s, .slice ao n cp, .string tx]) s d c rs ∧ (∀ n, cof rs n = f n) ∧ Below w.heap.size w w'
theorem normal_anyK {d K : Nat} {w : World} {r s : Int} {a1 : Option Addr} {n1 c1 : Nat} {t1 : ByteArray} {p : Rat} {cs : List (List UInt8 × Rat)} {M : Option Int} (h : LV w (.agg #[.int .i64 s, .slice a1 n1 c1, .string t1]) s d p cs) (hk : ConM r s d M) (hK : cs ≠ [] → M = none → DS K (kP cs)) (hdK : 2 * d + 1 ≤ K) (hd : K ≤ 640) (hM : M ≠ none → d ≤ 158) (hE : Env w) :
    Calls Tryz.prog 22 #[.agg #[.int .i64 r, .int .i64 s, .slice a1 n1 c1, .string t1, .string (TXo M)]] w fun e w' => ∃ r' c' f' tm', NN r s p cs M r' c' f' tm' ∧ GetsNN r' s tm' (3 * K + 2) c' f' w e w' := by
  cases M with
  | none =>
    refine (normalN h hk.2 hk.1 (fun hne => hK hne rfl) (by omega) hd hE).mono ?_;rintro e w' ⟨r', c', f', hn, rs, ao, n, cp, tx, rfl, hl, hf, hb⟩;exact ⟨r', c', f', _, ⟨hn, rfl⟩, rs, ao, n, cp, tx, rfl, hl, hf, hb⟩
  | some m =>
    obtain ⟨rfl, hr, hm, hmd⟩ := hk;refine (normalD h hr hm hmd (hM (by simp)) hE).mono ?_;rintro e w' ⟨r', c', f', tm', hn, rs, ao, n, cp, tx, rfl, hl, hf, hb⟩;exact ⟨r', c', f', _, hn, rs, ao, n, cp, tx, rfl, hl.mono (by omega), hf, hb⟩
theorem normal_any {d : Nat} {w : World} {r s : Int} {a1 : Option Addr} {n1 c1 : Nat} {t1 : ByteArray} {p : Rat} {cs : List (List UInt8 × Rat)} {M : Option Int} (h : LV w (.agg #[.int .i64 s, .slice a1 n1 c1, .string t1]) s d p cs) (hk : ConM r s d M) (hd : d ≤ 60) (hE : Env w) :
    Calls Tryz.prog 22 #[.agg #[.int .i64 r, .int .i64 s, .slice a1 n1 c1, .string t1, .string (TXo M)]] w fun e w' => ∃ r' c' f' tm', NN r s p cs M r' c' f' tm' ∧ GetsNN r' s tm' (27 * d + 8) c' f' w e w' := by
  have h1 := normal_anyK (K := 9 * d + 2) h hk (fun hne _ => kP_ds hne (can_nz h.good.1.can) h.good.1.ds (can_len h.good.1.can h.good.1.nm)) (by omega) (by omega) (fun _ => by omega) hE;rwa [show 3 * (9 * d + 2) + 2 = 27 * d + 8 by omega] at h1
/-- a box with a constraint -/
structure CX (w : World) (S : Nat) (r s : Int) (ao : Option Addr) (n cap : Nat) (tx tm : ByteArray) (d : Nat) (c : Rat) (cs : List (List UInt8 × Rat)) : Prop where
  h : w.heap[S]? = some (.cells #[.int .i64 r, .int .i64 s, .slice ao n cap, .string tx, .string tm] 39 (0, 0))
  l : LV w (.agg #[.int .i64 s, .slice ao n cap, .string tx]) s d c cs
section
variable {w w' : World} {S : Nat} {r s : Int} {ao : Option Addr} {n cap : Nat} {tx tm : ByteArray} {d : Nat} {c : Rat} {cs : List (List UInt8 × Rat)}
theorem CX.far (h : CX w S r s ao n cap tx tm d c cs) (hb : Below w.heap.size w w') : CX w' S r s ao n cap tx tm d c cs := ⟨(hb.block _ (lt_of_heap h.h)).trans h.h, h.l.far hb⟩
theorem CX.new (h : LV w (.agg #[.int .i64 s, .slice ao n cap, .string tx]) s d c cs) : CX (w.alloc (.cells #[.int .i64 r, .int .i64 s, .slice ao n cap, .string tx, .string tm] 39)) w.heap.size r s ao n cap tx tm d c cs :=
  ⟨heap_alloc_new w _, h.far (alloc_far w _)⟩
theorem CX.but (h : CX w S r s ao n cap tx tm d c cs) {T : Nat} {xs : Array Value} (hT : w.heap[T]? = some (.cells xs 39 (0, 0))) (hne : S ≠ T) (ho : ∀ g, g ≠ T → w'.heap[g]? = w.heap[g]?) : CX w' S r s ao n cap tx tm d c cs :=
  ⟨(ho _ hne).trans h.h, h.l.but hT (by decide) ho⟩
end
end Go.Proofs.YtgfoljpjdmeooaaGreatDoor

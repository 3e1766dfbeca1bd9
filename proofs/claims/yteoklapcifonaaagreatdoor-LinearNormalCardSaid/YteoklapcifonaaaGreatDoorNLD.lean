/- Linear expressions that are equal. -/
import Derived.Test.YteoklapcifonaaaGreatDoorNLG
namespace Go.Proofs.YteoklapcifonaaaGreatDoor
open Go.RowKit Nmx
section
set_option maxRecDepth 100000
set_option maxHeartbeats 4000000
theorem same_ok (w : World) (s : Int) (cs : List (List UInt8 × Rat)) (tc : ByteArray) (a1 : Option Addr) (g1 o1 c1 : Nat) (a2 : Option Addr) (g2 o2 c2 : Nat) (h1 : CSl w a1 g1 o1 c1 cs) (h2 : CSl w a2 g2 o2 c2 cs) :
    Calls Tryz.prog 19 #[.agg #[.int .i64 s, .slice a1 cs.length c1, .string tc], .agg #[.int .i64 s, .slice a2 cs.length c2, .string tc]] w fun e w' => e = .returned (.bool true) ∧ Below w.heap.size w w' := by
 have hle1 := h1.le;have hmost1 := h1.most;have hle2 := h2.le;have hmost2 := h2.most;have hb0 : Below w.heap.size w ((w.alloc (.cells #[.int .i64 s, .slice a1 cs.length c1, .string tc] 26)).alloc (.cells #[.int .i64 s, .slice a2 cs.length c2, .string tc] 26)) := below2 w _ _;have HB0 := Lib.hid hb0;have H1 := Lib.hid (h1.far hb0);have H2 := Lib.hid (h2.far hb0);obtain ⟨n, hn⟩ : ∃ n, cs.length = n := ⟨_, rfl⟩
 have HN := Lib.hid hn;rw [hn] at hle1 hle2 HB0 H1 H2 ⊢;clear h1 h2 hn hb0
 go_enter Tryz.func19, Tryz.ntmps19
 go_wp2_with fail
 go_loopg [5] n (fun gh iv wr => ∃ k nd : Nat, gh = n - k ∧ k ≤ n ∧ iv = .int .i64 k ∧ wr = ((w.alloc (.cells #[.int .i64 s, .slice a1 n c1, .string tc] 26)).alloc (.cells #[.int .i64 s, .slice a2 n c2, .string tc] 26)).drewN nd)
 case atStart => exact ⟨0, 0, rfl, Nat.zero_le _, rfl, rfl⟩
 case round =>
  obtain ⟨k, nd, rfl, hk, rfl, rfl⟩ := hrel
  by_cases hlt : k < n
  · have had1 := H1.out.ad (by omega);subst had1;have had2 := H2.out.ad (by omega);subst had2;have hlt' : k < cs.length := by rw [HN.out]; exact hlt
    have p0 := H1.out.nm k hlt';have p1 := H1.out.nu k hlt';have q0 := H2.out.nm k hlt';have q1 := H2.out.nu k hlt';generalize (⟨cs[k].1.toArray⟩ : ByteArray) = t0 at *;generalize TX cs[k].2 = t1 at *;have e1 : (0 : Int) ≤ (k : Int) := by omega
    have e2 : (k : Int) < (n : Int) := by omega
    go_wp2_with fail
    go_quiet (fail)
    go_wp2_with fail
    go_roundg (n - (k + 1))
    case rel => exact ⟨k + 1, nd + nq, rfl, by omega, by go_num, rfl⟩
    case measure => omega
  · obtain rfl : k = n := by omega
    go_wp2
    go_ret
    exact ⟨rfl, aw HB0.out _⟩
end
end Go.Proofs.YteoklapcifonaaaGreatDoor

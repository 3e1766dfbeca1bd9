/- subWords of package exact. -/
import Derived.Test.YtgehimcngljmnaaGreatDoorJ
namespace Go.Proofs.YtgehimcngljmnaaGreatDoor
open Go.RowKit Nmx

theorem sub_word (x y c : Nat) (hx : x < 4294967296) (hy : y < 4294967296) (hc : c ≤ 1) :
    ∃ T1 T2 : Nat, IntKind.u64.wrap ((x : Int) - (c : Int)) = T1 ∧ IntKind.u64.wrap ((T1 : Int) - (y : Int)) = T2 ∧ T1 < 18446744073709551616 ∧ T2 < 18446744073709551616 ∧ T2 / 9223372036854775808 ≤ 1 ∧ T2 % 4294967296 + y + c = x + 4294967296 * (T2 / 9223372036854775808) := by
  by_cases h1 : x < c
  · by_cases h2 : x < y + c
    · exact ⟨18446744073709551615, 18446744073709551616 + x - y - c, by rw [IntKind.wrap_u64]; omega, by rw [IntKind.wrap_u64]; omega, by omega, by omega, by omega, by omega⟩
    · omega
  · by_cases h2 : x < y + c
    · exact ⟨x - c, 18446744073709551616 + x - y - c, by rw [IntKind.wrap_u64]; omega, by rw [IntKind.wrap_u64]; omega, by omega, by omega, by omega, by omega⟩
    · exact ⟨x - c, x - y - c, by rw [IntKind.wrap_u64]; omega, by rw [IntKind.wrap_u64]; omega, by omega, by omega, by omega, by omega⟩
theorem w_63 (t : Nat) (z : Int) (hz : z = t) : z / 9223372036854775808 = ((t / 9223372036854775808 : Nat) : Int) := by omega

section
set_option maxRecDepth 100000
set_option maxHeartbeats 4000000
def SubPost (x y la : Nat) (w : World) (e : Ending) (w' : World) : Prop := ∃ v l, e = .returned v ∧ WV w' v l ∧ wv l = x - y ∧ l.length ≤ la ∧ Below w.heap.size w w'
theorem subWords_at (ao : Option Addr) (g off cap : Nat) (a : List Nat) (bo : Option Addr) (g' off' cap' : Nat) (b : List Nat) (w : World) (ha : WS w ao g off cap a) (hb : WS w bo g' off' cap' b) (hla : a.length ≤ 1000000) (hab : b.length ≤ a.length) (hle : wv b ≤ wv a) :
    Calls Tryz.prog 155 #[.slice ao a.length cap, .slice bo b.length cap'] w (SubPost (wv a) (wv b) a.length w) := by
  have hal := ha.le
  have ham := ha.most
  have hbl := hb.le
  have hbm := hb.most
  have HA := Lib.hid ha
  have HB := Lib.hid hb
  have HLE := Lib.hid hle
  clear ha hb hle
  have hmk := mk_words a.length (by omega) (a.length : Int) rfl
  have hst := WB.new w (List.replicate a.length 0)
  have hbel : Below w.heap.size w (w.alloc (.cells (u32s (List.replicate a.length 0)).toArray 109)) := (Below.refl _ _).alloc (Nat.le_refl _) _
  have HST := Lib.hid hst
  have HBE := Lib.hid hbel
  clear hst hbel
  go_enter Tryz.func155, Tryz.ntmps155
  go_wp2
  go_loopw [6, 14] (fun c i wr => ∃ (k cc : Nat) (l : List Nat), k ≤ a.length ∧ i = .int .i64 k ∧ c = .int .u64 cc ∧ SubR a b l k cc ∧ WB wr w.heap.size l ∧ Below w.heap.size w wr) (fun _ i _ => a.length - (intOf i).toNat)
  case atStart => exact ⟨0, 0, _, Nat.zero_le _, rfl, rfl, SubR.start a b, HST.out, HBE.out⟩
  case round =>
    obtain ⟨k, cc, l, hk, rfl, rfl, hsub, hwb, hbel⟩ := hrel
    have HR := Lib.hid hsub
    have HW := Lib.hid hwb
    have HBl := Lib.hid hbel
    have hc1 := hsub.c1
    have hc0 : (0 : Int) ≤ cc := by omega
    have hll := hsub.len
    clear hsub hwb hbel HST HBE
    by_cases hlt : k < a.length
    · have hcw := HW.out.cell k (by omega)
      have hfw := HW.out.fz k
      have hsize := HBl.out.size
      have had := HA.out.ad (by omega)
      subst had
      have hca := HA.out.keep HBl.out hlt
      have hx := at_one (i := k) HA.out.ws
      have hy := at_one (i := k) HB.out.ws
      have hx0 : (0 : Int) ≤ ((a.getD k 0 : Nat) : Int) := by omega
      have HS := Lib.hid (fun r c' hr hc he => HR.out.step hlt r c' hr hc he)
      obtain ⟨T1, T2, w1, w2, t1, t2, t3, t4⟩ := sub_word (a.getD k 0) (b.getD k 0) cc (by omega) (by omega) hc1
      have HT := Lib.hid t4
      have HT3 := Lib.hid t3
      clear t3 t4
      by_cases hlb : k < b.length
      · have hbd := HB.out.ad (by omega)
        subst hbd
        have hcb := HB.out.keep HBl.out hlb
        have hy0 : (0 : Int) ≤ ((b.getD k 0 : Nat) : Int) := by omega
        have hllb : (k : Int) < (b.length : Int) := by omega
        generalize a.getD k 0 = x at *
        generalize b.getD k 0 = y at *
        generalize l.getD k 0 = z at *
        go_wp2
        rw [w_63 T2 _ rfl, w_mod T2 _ rfl]
        refine ⟨⟨k + 1, T2 / 9223372036854775808, l.set k (T2 % BB), by omega, by go_num, rfl, HS.out _ _ (Nat.mod_lt _ BB_pos) HT3.out (by have := HT.out; rw [BB_eq]; exact this), HW.out.set k _, HBl.out.setCell (Nat.le_refl _) _⟩, ?_⟩
        simp [intOf]; omega
      · have hllb : ¬ (k : Int) < (b.length : Int) := by omega
        rw [getD_past hlb] at HS HT w2
        have e : T1 = T2 := by
          rw [IntKind.wrap_u64] at w2
          omega
        subst e
        clear w2 hy
        generalize a.getD k 0 = x at *
        generalize l.getD k 0 = z at *
        go_wp2
        rw [w_63 T1 _ rfl, w_mod T1 _ rfl]
        refine ⟨⟨k + 1, T1 / 9223372036854775808, l.set k (T1 % BB), by omega, by go_num, rfl, HS.out _ _ (Nat.mod_lt _ BB_pos) HT3.out (by have := HT.out; rw [BB_eq]; exact this), HW.out.set k _, HBl.out.setCell (Nat.le_refl _) _⟩, ?_⟩
        simp [intOf]; omega
    · obtain rfl : k = a.length := by omega
      have D1 := Lib.hid (HR.out.done hab HLE.out)
      go_wp2
      go_ret
      exact ⟨_, _, rfl, HW.out.ws HR.out.ws _ (by omega) (by omega), D1.out.1, by omega, HBl.out⟩
theorem subWords_any (x y : Value) (a b : List Nat) (w : World) (ha : WV w x a) (hb : WV w y b) (hla : a.length ≤ 1000000) (hab : b.length ≤ a.length) (hle : wv b ≤ wv a) : Calls Tryz.prog 155 #[x, y] w (SubPost (wv a) (wv b) a.length w) := by
  obtain ⟨ao, g, off, cap, rfl, h1⟩ := ha
  obtain ⟨bo, g', off', cap', rfl, h2⟩ := hb
  exact subWords_at ao g off cap a bo g' off' cap' b w h1 h2 hla hab hle
end
end Go.Proofs.YtgehimcngljmnaaGreatDoor

/- mulWords of package exact. -/
import Derived.Test.YtgehimcngljmnaaGreatDoorJ
namespace Go.Proofs.YtgehimcngljmnaaGreatDoor
open Go.RowKit Nmx

section
set_option maxRecDepth 100000
set_option maxHeartbeats 4000000
def MulPost (x y la : Nat) (w : World) (e : Ending) (w' : World) : Prop := ∃ v l, e = .returned v ∧ WV w' v l ∧ wv l = x * y ∧ l.length ≤ la ∧ Below w.heap.size w w'
theorem mulWords_at (ao : Option Addr) (g off cap : Nat) (a : List Nat) (bo : Option Addr) (g' off' cap' : Nat) (b : List Nat) (w : World) (ha : WS w ao g off cap a) (hb : WS w bo g' off' cap' b) (hla : a.length ≤ 1000000) (hlb : b.length ≤ 1000000) :
    Calls Tryz.prog 141 #[.slice ao a.length cap, .slice bo b.length cap'] w (MulPost (wv a) (wv b) (a.length + b.length) w) := by
  have hal := ha.le
  have ham := ha.most
  have hbl := hb.le
  have hbm := hb.most
  have HA := Lib.hid ha
  have HB := Lib.hid hb
  clear ha hb
  have hmk := mk_words (a.length + b.length) (by omega) ((a.length : Int) + (b.length : Int)) (by omega)
  have hst := WB.new w (List.replicate (a.length + b.length) 0)
  have hbel : Below w.heap.size w (w.alloc (.cells (u32s (List.replicate (a.length + b.length) 0)).toArray 109)) := (Below.refl _ _).alloc (Nat.le_refl _) _
  have HST := Lib.hid hst
  have HBE := Lib.hid hbel
  clear hst hbel
  go_enter Tryz.func141, Tryz.ntmps141
  go_wp2
  go_loopw [20] (fun i wr => ∃ (k : Nat) (l : List Nat), k ≤ a.length ∧ i = .int .i64 k ∧ MulR a b l k 0 0 ∧ WB wr w.heap.size l ∧ Below w.heap.size w wr) (fun i _ => a.length - (intOf i).toNat)
  case atStart => exact ⟨0, _, Nat.zero_le _, rfl, MulR.start a b, HST.out, HBE.out⟩
  case round =>
    obtain ⟨k, l, hk, rfl, hmul, hwb, hbel⟩ := hrel
    have HR := Lib.hid hmul
    have HW := Lib.hid hwb
    have HBl := Lib.hid hbel
    have hll := hmul.len
    clear hmul hwb hbel HST HBE
    by_cases hlt : k < a.length
    · have had := HA.out.ad (by omega)
      subst had
      have hca := HA.out.keep HBl.out hlt
      have hx := at_one (i := k) HA.out.ws
      have hx0 : (0 : Int) ≤ ((a.getD k 0 : Nat) : Int) := by omega
      obtain ⟨x, hxe⟩ : ∃ x, a.getD k 0 = x := ⟨_, rfl⟩
      rw [hxe] at hca hx hx0
      have HX := Lib.hid hxe
      clear hxe
      obtain ⟨wo, rfl⟩ : ∃ wo : World, wo = wr := ⟨_, rfl⟩
      go_wp2
      go_loopw [8, 27] (fun c j wr => ∃ (m cc : Nat) (l : List Nat), m ≤ b.length ∧ j = .int .i64 m ∧ c = .int .u64 cc ∧ MulR a b l k m cc ∧ WB wr w.heap.size l ∧ Below w.heap.size w wr) (fun _ j _ => b.length - (intOf j).toNat)
      case atStart => exact ⟨0, 0, l, Nat.zero_le _, rfl, rfl, HR.out, HW.out, HBl.out⟩
      case round =>
        obtain ⟨m, cc, l2, hm, rfl, rfl, hmul, hwb, hbel⟩ := hrel
        have HR2 := Lib.hid hmul
        have HW2 := Lib.hid hwb
        have HBl2 := Lib.hid hbel
        have hll2 := hmul.len
        have hc1 : cc < 4294967296 := by have := hmul.c1; rw [BB_eq] at this; exact this
        clear hmul hwb hbel HR HW HBl hca
        have hsize := HBl2.out.size
        by_cases hlm : m < b.length
        · have hbd := HB.out.ad (by omega)
          subst hbd
          have hcb := HB.out.keep HBl2.out hlm
          have hy := at_one (i := m) HB.out.ws
          have hy0 : (0 : Int) ≤ ((b.getD m 0 : Nat) : Int) := by omega
          have hz := at_one (i := k + m) HR2.out.ws
          have hz0 : (0 : Int) ≤ ((l2.getD (k + m) 0 : Nat) : Int) := by omega
          have hcw := HW2.out.cell (k + m) (by omega)
          have hfw := HW2.out.fz (k + m)
          have hi1 : (k : Int) + (m : Int) < (a.length : Int) + (b.length : Int) := by omega
          have hi2 : ((k : Int) + (m : Int)).toNat = k + m := by omega
          have hi0 : (0 : Int) ≤ (k : Int) + (m : Int) := by omega
          have HS := Lib.hid (fun t ht => HR2.out.step HA.out.ws HB.out.ws hlt hlm t ht)
          have HX2 := HX.out
          have HS2 : Hid (∀ t, t = x * b.getD m 0 + l2.getD (k + m) 0 + cc → MulR a b (l2.set (k + m) (t % BB)) k (m + 1) (t / BB) ∧ t < BB * BB) := Lib.hid (fun t ht => HS.out t (by rw [HX2]; exact ht))
          clear HS HX2
          generalize b.getD m 0 = y at *
          generalize l2.getD (k + m) 0 = z at *
          have hP := (HS2.out _ rfl).2
          rw [BB_eq] at hP
          have hm1 : IntKind.u64.wrap ((x : Int) * (y : Int)) = ((x * y : Nat) : Int) := by rw [← Int.natCast_mul, IntKind.wrap_u64]; omega
          generalize hPe : x * y = P at *
          clear hPe
          have hP0 : (0 : Int) ≤ (P : Int) := by omega
          have hP1 : (P : Int) + (z : Int) + (cc : Int) ≤ 18446744073709551615 := by omega
          have hc0 : (0 : Int) ≤ (cc : Int) := by omega
          clear hP
          go_wp2
          rw [w_div (P + z + cc) _ (by omega), w_mod (P + z + cc) _ (by omega)]
          refine ⟨⟨m + 1, (P + z + cc) / BB, l2.set (k + m) ((P + z + cc) % BB), by omega, by go_num, rfl, (HS2.out _ rfl).1, HW2.out.set _ _, HBl2.out.setCell (Nat.le_refl _) _⟩, ?_⟩
          simp [intOf]; omega
        · obtain rfl : m = b.length := by omega
          have HN := Lib.hid (HR2.out.next hlt)
          have hcw := HW2.out.cell (k + b.length) (by omega)
          have hfw := HW2.out.fz (k + b.length)
          have hi1 : (k : Int) + (b.length : Int) < (a.length : Int) + (b.length : Int) := by omega
          have hi2 : ((k : Int) + (b.length : Int)).toNat = k + b.length := by omega
          have hi0 : (0 : Int) ≤ (k : Int) + (b.length : Int) := by omega
          have hc0 : (0 : Int) ≤ (cc : Int) := by omega
          generalize l2.getD (k + b.length) 0 = z at *
          go_wp2
          refine ⟨⟨k + 1, l2.set (k + b.length) cc, by omega, by go_num, HN.out, HW2.out.set _ _, HBl2.out.setCell (Nat.le_refl _) _⟩, ?_⟩
          simp [intOf]; omega
    · obtain rfl : k = a.length := by omega
      have D1 := Lib.hid HR.out.done
      go_wp2
      go_ret
      exact ⟨_, _, rfl, HW.out.ws HR.out.ws _ (by omega) (by omega), D1.out, by omega, HBl.out⟩
theorem mulWords_any (x y : Value) (a b : List Nat) (w : World) (ha : WV w x a) (hb : WV w y b) (hla : a.length ≤ 1000000) (hlb : b.length ≤ 1000000) : Calls Tryz.prog 141 #[x, y] w (MulPost (wv a) (wv b) (a.length + b.length) w) := by
  obtain ⟨ao, g, off, cap, rfl, h1⟩ := ha
  obtain ⟨bo, g', off', cap', rfl, h2⟩ := hb
  exact mulWords_at ao g off cap a bo g' off' cap' b w h1 h2 hla hlb
end
end Go.Proofs.YtgehimcngljmnaaGreatDoor

/- A text that is spoiled at a place: at its end, replaced. -/
import Derived.Test.YtmmohhaolgblkaaDoorAC
import Derived.Test.YtmmohhaolgblkaaDoorAB
namespace Go.Proofs.YtmmohhaolgblkaaDoor
open Go.RowKit

set_option maxHeartbeats 4000000 in
set_option maxRecDepth 100000 in
theorem spoil_setEnd (s : ByteArray) (at0 how : Int) (c : UInt8) (k : Nat) (w : World) (hs : s.size ≤ 100000) (hk : k ≤ s.size) (hlt : ¬ k < s.size)
    (hm1 : Calls Tryd.prog 16 #[.int .i64 at0, .int .i64 ((s.size : Int) + 1)] w fun e w' => e = .returned (.int .i64 k) ∧ w = w')
    (hm2 : Calls Tryd.prog 16 #[.int .i64 how, .int .i64 3] w fun e w' => e = .returned (.int .i64 0) ∧ w = w') :
    Calls Tryd.prog 15 #[.string s, .int .i64 at0, .int .u8 c.toNat, .int .i64 how] w fun e w' => (∃ t, e = .returned (.string t)) ∧ Below w.heap.size w w' := by
  have g0 : (0 : Int) ≤ (k : Int) := by omega
  have hwr : IntKind.i64.wrap ((k : Int) + 1) = (k : Int) + 1 := by rw [IntKind.wrap_i64]; omega
  have hwr2 : ((k : Int) + 1).toNat = k + 1 := by omega
  have g1 : (k : Int) ≤ (s.size : Int) := by omega
  have hcv := conv_one w c (c.toNat : Int) rfl
  have hcv2 := conv_one w.drew c (c.toNat : Int) rfl
  have hcv3 : Sem.run Tryd.prog (convert 52 9 (Value.slice (some { block := w.heap.size, off := 0 }) 1 1)) (w.alloc (.cells #[.int .u8 (c.toNat : Int)] 5)).drew = .ok (.string ⟨#[c]⟩) (w.alloc (.cells #[.int .u8 (c.toNat : Int)] 5)).drew := hcv2
  have hbl : Below w.heap.size w (w.alloc (.cells #[.int .u8 (c.toNat : Int)] 5)) := (Below.refl _ _).alloc (Nat.le_refl _) _
  have HB := Lib.hid hbl
  clear hbl
  have g2 : ¬ (k : Int) < (s.size : Int) := by omega
  go_enter Tryd.func15, Tryd.ntmps15
  go_wp2_with (go_at_call 16; (first | (refine hm1.mono ?_; rintro e w' ⟨rfl, rfl⟩) | (refine hm2.mono ?_; rintro e w' ⟨rfl, rfl⟩)))
  go_region
  all_goals
    go_wp2
    go_ret
    exact ⟨⟨_, rfl⟩, below_drewN HB.out 1⟩
end Go.Proofs.YtmmohhaolgblkaaDoor

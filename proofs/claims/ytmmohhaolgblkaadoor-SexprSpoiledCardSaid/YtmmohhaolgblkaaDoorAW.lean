/- A text that is spoiled at a place: some text. -/
import Derived.Test.YtmmohhaolgblkaaDoorBA
import Derived.Test.YtmmohhaolgblkaaDoorBB
import Derived.Test.YtmmohhaolgblkaaDoorBC
import Derived.Test.YtmmohhaolgblkaaDoorBD
import Derived.Test.YtmmohhaolgblkaaDoorBE
namespace Go.Proofs.YtmmohhaolgblkaaDoor
open Go.RowKit

theorem spoil_any (s : ByteArray) (at0 how : Int) (c : UInt8) (w : World) (hs : s.size ≤ 100000) :
    Calls Tryd.prog 15 #[.string s, .int .i64 at0, .int .u8 c.toNat, .int .i64 how] w fun e w' => (∃ t, e = .returned (.string t)) ∧ Below w.heap.size w w' := by
  have hm1 := mod_any at0 ((s.size : Int) + 1) w (by omega) (by omega)
  have hm2 := mod_any how 3 w (by omega) (by omega)
  have p0 : 0 ≤ modF at0 ((s.size : Int) + 1) := by unfold modF; exact Int.emod_nonneg _ (by omega)
  have p1 : modF at0 ((s.size : Int) + 1) < (s.size : Int) + 1 := by unfold modF; exact Int.emod_lt_of_pos _ (by omega)
  have q0 : 0 ≤ modF how 3 := by unfold modF; omega
  have q1 : modF how 3 < 3 := by unfold modF; omega
  generalize modF at0 ((s.size : Int) + 1) = k0 at *
  generalize modF how 3 = r at *
  obtain ⟨k, rfl⟩ := Int.eq_ofNat_of_zero_le p0
  have hk : k ≤ s.size := by omega
  by_cases hr0 : r = 0
  · subst hr0
    by_cases hlt : k < s.size
    · exact spoil_set s at0 how c k w hs hk hlt hm1 hm2
    · exact spoil_setEnd s at0 how c k w hs hk hlt hm1 hm2
  · by_cases hr1 : r = 1
    · subst hr1
      by_cases hlt : k < s.size
      · exact spoil_cut s at0 how c k w hs hk hlt hm1 hm2
      · exact spoil_cutEnd s at0 how c k w hs hk hlt hm1 hm2
    · obtain rfl : r = 2 := by omega
      exact spoil_put s at0 how c k w hs hk hm1 hm2
end Go.Proofs.YtmmohhaolgblkaaDoor

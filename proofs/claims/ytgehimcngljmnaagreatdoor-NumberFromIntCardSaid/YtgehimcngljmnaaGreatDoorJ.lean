/- addWords, subWords, mulWords of package exact. -/
import Derived.Test.YtgehimcngljmnaaGreatDoorI
namespace Go.Proofs.YtgehimcngljmnaaGreatDoor
open Go.RowKit Nmx

theorem u32s_set (l : List Nat) (i x : Nat) : (u32s l).toArray.setIfInBounds i (.int .u32 (x : Int)) = (u32s (l.set i x)).toArray := by
  simp [u32s, List.map_set]
theorem infoU32 : (Tryz.prog.info? 109).map (fun i => (i.zero, i.size, i.bytes)) = some (some (.int .u32 0), 1, 4) := by kernel_rfl
theorem made_u32 (n : Nat) : madeCells (Value.cells (.int .u32 0)) (n * 1) = (u32s (List.replicate n 0)).toArray := by
  apply Array.ext
  · simp [madeCells, u32s]
  · intro i h1 h2
    simp [madeCells, u32s, Value.cells, Nat.mod_one]
theorem mk_words (n : Nat) (hn : n ≤ 1000000000) (z : Int) (hz : z = n) (W : World) :
    (Instr.makeSlice 56 (.int .i64 z) (.int .i64 z)).run Tryz.prog W = .ok (.slice (some ⟨W.heap.size, 0, none⟩) n n) (W.alloc (.cells (u32s (List.replicate n 0)).toArray 109)) := by
  subst hz
  obtain ⟨i0, hi, hz0, hz1, hz2⟩ := info_parts infoU32
  have hr := run_make (P := Tryz.prog) W 56 109 i0 _ Tryz.underlying56 hi hz0 .i64 .i64 n n (by omega) (by omega) (by rw [hz2]; omega) (by omega)
  rw [hz1, Int.toNat_natCast, made_u32] at hr
  exact hr
/-- a block of words of the call's own -/
def WB (w : World) (g : Nat) (l : List Nat) : Prop := w.heap[g]? = some (.cells (u32s l).toArray 109 (0, 0))
theorem WB.set {w : World} {g : Nat} {l : List Nat} (h : WB w g l) (i x : Nat) : WB (w.setCell ⟨g, i, none⟩ (.int .u32 (x : Int))) g (l.set i x) := by
  unfold WB
  rw [← u32s_set]; exact heap_set h i _
theorem WB.cell {w : World} {g : Nat} {l : List Nat} (h : WB w g l) (i : Nat) (hi : i < l.length) : w.cell? ⟨g, i, none⟩ = some (.int .u32 ((l.getD i 0 : Nat) : Int)) := by
  rw [heap_cell h i]; simpa using u32s_at l i hi
theorem WB.fz {w : World} {g : Nat} {l : List Nat} (h : WB w g l) (i : Nat) : w.frozen? ⟨g, i, none⟩ = false := heap_fz h i
theorem WB.new (w : World) (l : List Nat) : WB (w.alloc (.cells (u32s l).toArray 109)) w.heap.size l := heap_alloc_new w _
theorem WB.ws {w : World} {g : Nat} {l : List Nat} (h : WB w g l) (hl : Ws l) (n : Nat) (hn : n = l.length) (hm : n ≤ 1000000000) : WV w (.slice (some ⟨g, 0, none⟩) n n) l := by
  subst hn
  exact ⟨_, g, 0, _, rfl, Nat.le_refl _, by omega, fun _ => rfl, (fun h => by cases h), fun _ => ⟨_, _, h⟩, fun i hi => by rw [Nat.zero_add]; exact h.cell i hi, hl⟩
/-- words elsewhere, below where the call began, read as they did -/
theorem WS.keep {w w' : World} {ao : Option Addr} {g off cap : Nat} {l : List Nat} (h : WS w ao g off cap l) (hb : Below w.heap.size w w') {i : Nat} (hi : i < l.length) : w'.cell? ⟨g, off + i, none⟩ = some (.int .u32 ((l.getD i 0 : Nat) : Int)) :=
  (h.far hb).at_ i hi
theorem at_one {l : List Nat} {i : Nat} (h : Ws l) : ((l.getD i 0 : Nat) : Int) ≤ 4294967295 := by have := h.getD i; rw [BB_eq] at this; omega

theorem w_div (t : Nat) (z : Int) (hz : z = t) : z / 4294967296 = ((t / BB : Nat) : Int) := by rw [BB_eq]; omega
theorem w_mod (t : Nat) (z : Int) (hz : z = t) : z % 4294967296 = ((t % BB : Nat) : Int) := by rw [BB_eq]; omega
theorem getD_past {l : List Nat} {k : Nat} (h : ¬ k < l.length) : l.getD k 0 = 0 := by rw [List.getD_eq_getElem?_getD, List.getElem?_eq_none (by omega)]; rfl

section
set_option maxRecDepth 100000
set_option maxHeartbeats 4000000
def AddPost (x y la lb : Nat) (w : World) (e : Ending) (w' : World) : Prop := ∃ v l, e = .returned v ∧ WV w' v l ∧ wv l = x + y ∧ l.length ≤ max la lb + 1 ∧ Below w.heap.size w w'
theorem addWords_ge (ao : Option Addr) (g off cap : Nat) (a : List Nat) (bo : Option Addr) (g' off' cap' : Nat) (b : List Nat) (w : World) (ha : WS w ao g off cap a) (hb : WS w bo g' off' cap' b) (hla : a.length ≤ 1000000) (hab : b.length ≤ a.length) :
    Calls Tryz.prog 154 #[.slice ao a.length cap, .slice bo b.length cap'] w (AddPost (wv a) (wv b) a.length b.length w) := by
  have hal := ha.le
  have ham := ha.most
  have hbl := hb.le
  have hbm := hb.most
  have HA := Lib.hid ha
  have HB := Lib.hid hb
  clear ha hb
  have hmk := mk_words (a.length + 1) (by omega) ((a.length : Int) + 1) (by omega)
  have h1' : ¬ (a.length : Int) < (b.length : Int) := by omega
  have hst := WB.new w (List.replicate (a.length + 1) 0)
  have hbel : Below w.heap.size w (w.alloc (.cells (u32s (List.replicate (a.length + 1) 0)).toArray 109)) := (Below.refl _ _).alloc (Nat.le_refl _) _
  have HST := Lib.hid hst
  have HBE := Lib.hid hbel
  clear hst hbel
  go_enter Tryz.func154, Tryz.ntmps154
  go_wp2
  go_loopw [6, 22] (fun c i wr => ∃ (k cc : Nat) (l : List Nat), k ≤ a.length ∧ i = .int .i64 k ∧ c = .int .u64 cc ∧ AddR a b l k cc ∧ WB wr w.heap.size l ∧ Below w.heap.size w wr) (fun _ i _ => a.length - (intOf i).toNat)
  case atStart => exact ⟨0, 0, _, Nat.zero_le _, rfl, rfl, AddR.start a b, HST.out, HBE.out⟩
  case round =>
    obtain ⟨k, cc, l, hk, rfl, rfl, hadd, hwb, hbel⟩ := hrel
    have HR := Lib.hid hadd
    have HW := Lib.hid hwb
    have HBl := Lib.hid hbel
    have hc1 : (cc : Int) ≤ 1 := by have := hadd.c1; omega
    have hc0 : (0 : Int) ≤ cc := by omega
    have hll := hadd.len
    clear hadd hwb hbel HST HBE
    have hcw := HW.out.cell k (by omega)
    have hfw := HW.out.fz k
    have hsize := HBl.out.size
    by_cases hlt : k < a.length
    · have had := HA.out.ad (by omega)
      subst had
      have hca := HA.out.keep HBl.out hlt
      have hx := at_one (i := k) HA.out.ws
      have hx0 : (0 : Int) ≤ ((a.getD k 0 : Nat) : Int) := by omega
      have HS := Lib.hid (fun t ht => HR.out.step HA.out.ws HB.out.ws hlt t ht)
      by_cases hlb : k < b.length
      · have hbd := HB.out.ad (by omega)
        subst hbd
        have hcb := HB.out.keep HBl.out hlb
        have hy := at_one (i := k) HB.out.ws
        have hy0 : (0 : Int) ≤ ((b.getD k 0 : Nat) : Int) := by omega
        have hllb : (k : Int) < (b.length : Int) := by omega
        generalize a.getD k 0 = x at *
        generalize b.getD k 0 = y at *
        generalize l.getD k 0 = z at *
        go_wp2
        rw [w_div (x + cc + y) _ (by omega), w_mod (x + cc + y) _ (by omega)]
        refine ⟨⟨k + 1, (x + cc + y) / BB, l.set k ((x + cc + y) % BB), by omega, by go_num, rfl, HS.out _ rfl, HW.out.set k _, HBl.out.setCell (Nat.le_refl _) _⟩, ?_⟩
        simp [intOf]; omega
      · have hllb : ¬ (k : Int) < (b.length : Int) := by omega
        rw [getD_past hlb] at HS
        generalize a.getD k 0 = x at *
        generalize l.getD k 0 = z at *
        go_wp2
        rw [w_div (x + cc) _ (by omega), w_mod (x + cc) _ (by omega)]
        refine ⟨⟨k + 1, (x + cc) / BB, l.set k ((x + cc) % BB), by omega, by go_num, rfl, HS.out _ rfl, HW.out.set k _, HBl.out.setCell (Nat.le_refl _) _⟩, ?_⟩
        simp [intOf]; omega
    · obtain rfl : k = a.length := by omega
      obtain ⟨d1, d2, d3⟩ := HR.out.done (by omega)
      have D1 := Lib.hid d1
      have D2 := Lib.hid d2
      have D3 := Lib.hid d3
      clear d1 d2 d3
      go_wp2
      go_ret
      exact ⟨_, _, rfl, (HW.out.set a.length cc).ws D2.out _ (by have := D3.out; omega) (by omega), D1.out, by rw [D3.out]; omega, HBl.out.setCell (Nat.le_refl _) _⟩
theorem addWords_lt (ao : Option Addr) (g off cap : Nat) (a : List Nat) (bo : Option Addr) (g' off' cap' : Nat) (b : List Nat) (w : World) (ha : WS w ao g off cap a) (hb : WS w bo g' off' cap' b) (hlb' : b.length ≤ 1000000) (hab : a.length < b.length) :
    Calls Tryz.prog 154 #[.slice ao a.length cap, .slice bo b.length cap'] w (AddPost (wv a) (wv b) a.length b.length w) := by
  have hal := ha.le
  have ham := ha.most
  have hbl := hb.le
  have hbm := hb.most
  have HA := Lib.hid ha
  have HB := Lib.hid hb
  clear ha hb
  have hmk := mk_words (b.length + 1) (by omega) ((b.length : Int) + 1) (by omega)
  have h1' : (a.length : Int) < (b.length : Int) := by omega
  have hst := WB.new w (List.replicate (b.length + 1) 0)
  have hbel : Below w.heap.size w (w.alloc (.cells (u32s (List.replicate (b.length + 1) 0)).toArray 109)) := (Below.refl _ _).alloc (Nat.le_refl _) _
  have HST := Lib.hid hst
  have HBE := Lib.hid hbel
  clear hst hbel
  go_enter Tryz.func154, Tryz.ntmps154
  go_wp2
  go_loopw [6, 22] (fun c i wr => ∃ (k cc : Nat) (l : List Nat), k ≤ b.length ∧ i = .int .i64 k ∧ c = .int .u64 cc ∧ AddR b a l k cc ∧ WB wr w.heap.size l ∧ Below w.heap.size w wr) (fun _ i _ => b.length - (intOf i).toNat)
  case atStart => exact ⟨0, 0, _, Nat.zero_le _, rfl, rfl, AddR.start b a, HST.out, HBE.out⟩
  case round =>
    obtain ⟨k, cc, l, hk, rfl, rfl, hadd, hwb, hbel⟩ := hrel
    have HR := Lib.hid hadd
    have HW := Lib.hid hwb
    have HBl := Lib.hid hbel
    have hc1 : (cc : Int) ≤ 1 := by have := hadd.c1; omega
    have hc0 : (0 : Int) ≤ cc := by omega
    have hll := hadd.len
    clear hadd hwb hbel HST HBE
    have hcw := HW.out.cell k (by omega)
    have hfw := HW.out.fz k
    have hsize := HBl.out.size
    by_cases hlt : k < b.length
    · have had := HB.out.ad (by omega)
      subst had
      have hca := HB.out.keep HBl.out hlt
      have hx := at_one (i := k) HB.out.ws
      have hx0 : (0 : Int) ≤ ((b.getD k 0 : Nat) : Int) := by omega
      have HS := Lib.hid (fun t ht => HR.out.step HB.out.ws HA.out.ws hlt t ht)
      by_cases hlb : k < a.length
      · have hbd := HA.out.ad (by omega)
        subst hbd
        have hcb := HA.out.keep HBl.out hlb
        have hy := at_one (i := k) HA.out.ws
        have hy0 : (0 : Int) ≤ ((a.getD k 0 : Nat) : Int) := by omega
        have hllb : (k : Int) < (a.length : Int) := by omega
        generalize b.getD k 0 = x at *
        generalize a.getD k 0 = y at *
        generalize l.getD k 0 = z at *
        go_wp2
        rw [w_div (x + cc + y) _ (by omega), w_mod (x + cc + y) _ (by omega)]
        refine ⟨⟨k + 1, (x + cc + y) / BB, l.set k ((x + cc + y) % BB), by omega, by go_num, rfl, HS.out _ rfl, HW.out.set k _, HBl.out.setCell (Nat.le_refl _) _⟩, ?_⟩
        simp [intOf]; omega
      · have hllb : ¬ (k : Int) < (a.length : Int) := by omega
        rw [getD_past hlb] at HS
        generalize b.getD k 0 = x at *
        generalize l.getD k 0 = z at *
        go_wp2
        rw [w_div (x + cc) _ (by omega), w_mod (x + cc) _ (by omega)]
        refine ⟨⟨k + 1, (x + cc) / BB, l.set k ((x + cc) % BB), by omega, by go_num, rfl, HS.out _ rfl, HW.out.set k _, HBl.out.setCell (Nat.le_refl _) _⟩, ?_⟩
        simp [intOf]; omega
    · obtain rfl : k = b.length := by omega
      obtain ⟨d1, d2, d3⟩ := HR.out.done (by omega)
      have D1 := Lib.hid d1
      have D2 := Lib.hid d2
      have D3 := Lib.hid d3
      clear d1 d2 d3
      go_wp2
      go_ret
      exact ⟨_, _, rfl, (HW.out.set b.length cc).ws D2.out _ (by have := D3.out; omega) (by omega), by rw [D1.out, Nat.add_comm], by rw [D3.out]; omega, HBl.out.setCell (Nat.le_refl _) _⟩
theorem addWords_any (x y : Value) (a b : List Nat) (w : World) (ha : WV w x a) (hb : WV w y b) (hla : a.length ≤ 1000000) (hlb : b.length ≤ 1000000) : Calls Tryz.prog 154 #[x, y] w (AddPost (wv a) (wv b) a.length b.length w) := by
  obtain ⟨ao, g, off, cap, rfl, h1⟩ := ha
  obtain ⟨bo, g', off', cap', rfl, h2⟩ := hb
  by_cases h : a.length < b.length
  · exact addWords_lt ao g off cap a bo g' off' cap' b w h1 h2 hlb h
  · exact addWords_ge ao g off cap a bo g' off' cap' b w h1 h2 hla (by omega)
end
end Go.Proofs.YtgehimcngljmnaaGreatDoor

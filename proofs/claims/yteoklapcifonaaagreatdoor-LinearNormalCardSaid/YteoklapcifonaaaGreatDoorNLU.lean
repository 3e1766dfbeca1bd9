/- The sanity check of the statements on linear expressions. -/
import Derived.Test.YteoklapcifonaaaGreatDoorNMO
import Derived.Test.YteoklapcifonaaaGreatDoorNLJ
import Derived.Test.YteoklapcifonaaaGreatDoorNLD
import Derived.Laws.AppendOwnNone
import Derived.Laws.OwnMore
namespace Go.Proofs.YteoklapcifonaaaGreatDoor
open Go.RowKit Nmx
theorem tx_1 : TX 1 = ⟨#[49]⟩ := (tx_of (by decide +kernel)).symm
theorem tx_2 : TX 2 = ⟨#[50]⟩ := (tx_of (by decide +kernel)).symm
theorem tx_3 : TX 3 = ⟨#[51]⟩ := (tx_of (by decide +kernel)).symm
theorem tx_4 : TX 4 = ⟨#[52]⟩ := (tx_of (by decide +kernel)).symm
/-- the coefficients of the sanity check -/
def csA : List (List UInt8 × Rat) := [([120], 2), ([121], 4)]
theorem kP_A : kP csA = 1 / 2 := by decide +kernel
theorem ce_A : ceI (kP csA * 3) = 2 := by decide +kernel
theorem good_A : Good 1 csA := by
 refine ⟨⟨by decide +kernel, by decide +kernel, by decide +kernel, by decide +kernel, trivial⟩, by decide +kernel, ?_⟩;intro x hx;simp only [csA, List.mem_cons, List.not_mem_nil, or_false] at hx;rcases hx with rfl | rfl
 iterate 2
  · exact ⟨by decide +kernel, by decide +kernel⟩
theorem rs_A {rs : List (List UInt8 × Rat)} (hc : Can ltB rs) (hf : ∀ n, cof rs n = kP csA * cof csA n) : rs = [([120], 1), ([121], 2)] := by
 refine can_ext ord_ltB _ _ hc ⟨by decide +kernel, by decide +kernel, by decide +kernel, by decide +kernel, trivial⟩ fun n => ?_
 rw [hf n, kP_A];unfold csA;rw [aW, aW, aW, aW]
 split
 · decide +kernel
 · split
   · decide +kernel
   · show 1 / 2 * (0 : Rat) = 0;exact Rat.mul_zero _
theorem lv_A (w : World) : LV (w.alloc (.cells #[.string ⟨#[120]⟩, .string ⟨#[50]⟩, .string ⟨#[121]⟩, .string ⟨#[52]⟩] 79)) (.agg #[.int .i64 2, .slice (some ⟨w.heap.size, 0, none⟩) 2 2, .string ⟨#[51]⟩]) 2 1 3 csA := by
 have h := heap_alloc_new w (.cells #[.string ⟨#[120]⟩, .string ⟨#[50]⟩, .string ⟨#[121]⟩, .string ⟨#[52]⟩] 79);refine ⟨_, w.heap.size, 0, 2, by rw [tx_3]; rfl, ⟨by decide, by decide, fun _ => rfl, fun i hi => ?_, fun i hi => ?_⟩, .inr ⟨_, _, h⟩, good_A, ⟨by decide +kernel, by decide +kernel⟩⟩
 · match i, hi with
   | 0, _ => exact aa h 0
   | 1, _ => exact aa h 2
 · match i, hi with
   | 0, _ => exact (aa h 1).trans (by show _ = some (Value.string (TX 2)); rw [tx_2]; rfl)
   | 1, _ => exact (aa h 3).trans (by show _ = some (Value.string (TX 4)); rw [tx_4]; rfl)
section
set_option maxRecDepth 100000
set_option maxHeartbeats 8000000
theorem awakeL (w : World) (hE : Env w) : Calls Tryz.prog 20 #[] w fun e w' => e = .returned (.bool true) ∧ Below w.heap.size w w' := by
 obtain ⟨m1, m2, mb⟩ := newL2 w (.cells #[.string ⟨#[120]⟩, .string ⟨#[50]⟩, .string ⟨#[121]⟩, .string ⟨#[52]⟩] 79) (.cells #[.int .i64 2, .slice (some ⟨w.heap.size, 0, none⟩) 2 2, .string ⟨#[51]⟩] 26);have hal : Below (w.alloc (.cells #[.string ⟨#[120]⟩, .string ⟨#[50]⟩, .string ⟨#[121]⟩, .string ⟨#[52]⟩] 79)).heap.size (w.alloc (.cells #[.string ⟨#[120]⟩, .string ⟨#[50]⟩, .string ⟨#[121]⟩, .string ⟨#[52]⟩] 79)) ((w.alloc (.cells #[.string ⟨#[120]⟩, .string ⟨#[50]⟩, .string ⟨#[121]⟩, .string ⟨#[52]⟩] 79)).alloc (.cells #[.int .i64 2, .slice (some ⟨w.heap.size, 0, none⟩) 2 2, .string ⟨#[51]⟩] 26)) := (Below.refl _ _).alloc (Nat.le_refl _) _;have hn := normalT ((lv_A w).far hal) (by decide) (by omega) (hE.far mb);have HM := Lib.hid m2;have HB := Lib.hid mb;rw [ce_A] at hn;have HN := Lib.hid hn;clear m1 m2 mb hal hE hn
 go_enter Tryz.func20, Tryz.ntmps20
 go_wp2_with fail
 refine HN.out.mono ?_;rintro e w2 ⟨rs, ao, n, cp, tx, rfl, hl, hf, hb⟩;obtain ⟨ao', g, off, cap', he, hc, hty, hg, dc⟩ := hl;injection he with he;injection he with he;injection he with _ he;injection he with he1 he;injection he with he2 _;injection he1 with e1 e2 e3;injection he2 with e4;subst e1 e2 e3 e4;obtain rfl := rs_A hg.can hf;have had := hc.ad (by have := hc.le; simp at this; omega);subst had;have hle := hc.le;have n0 := hc.nu 0 (by decide);have n1 := hc.nu 1 (by decide);have hw := hb.size;have n0' : w2.cell? ⟨g, off + 1, none⟩ = some (.string ⟨#[49]⟩) := by rw [← tx_1]; exact n0
 have n1' : w2.cell? ⟨g, off + 2 + 1, none⟩ = some (.string ⟨#[50]⟩) := by rw [← tx_2]; exact n1
 have t2 : TX ((2 : Int) : Rat) = ⟨#[50]⟩ := tx_2;rw [t2];have hg2 := World.block_lt_of_cell? _ _ n0;have hnew : ∀ o, Below w2.heap.size w2 (w2.alloc o) := fun o => (Below.refl _ _).alloc (Nat.le_refl _) _
 have k0 := fun o => ((hnew o).cell (p := ⟨g, off + 1, none⟩) (World.block_lt_of_cell? _ _ n0')).trans n0'
 have k1 := fun o => ((hnew o).cell (p := ⟨g, off + 2 + 1, none⟩) (World.block_lt_of_cell? _ _ n1')).trans n1'
 have HB2 := Lib.hid (HB.out.trans (hb.mono HB.out.size));clear hb hc hty hg dc hf n0 n1 t2
 go_wp2
 go_ret
 exact ⟨rfl, HB2.out.alloc (by have := HB2.out.size; omega) _⟩
end
end Go.Proofs.YteoklapcifonaaaGreatDoor
/- The laws of a vector space at linear expressions: the walk of the statement. -/
namespace Go.Proofs.YteoklapcifonaaaGreatDoor
open Go.RowKit Nmx
theorem LV.open {w : World} {v : Value} {s : Int} {d : Nat} {c : Rat} {cs : List (List UInt8 × Rat)} (h : LV w v s d c cs) : ∃ ao n cap tx, v = .agg #[.int .i64 s, .slice ao n cap, .string tx] ∧ LV w (.agg #[.int .i64 s, .slice ao n cap, .string tx]) s d c cs := by
 have h' := h;obtain ⟨ao, g, off, cap, rfl, -⟩ := h';exact ⟨_, _, _, _, rfl, h⟩
section
variable {w w' : World} {S : Nat} {s : Int} {ao : Option Addr} {n cap : Nat} {tx : ByteArray} {d : Nat} {c : Rat} {cs : List (List UInt8 × Rat)}
theorem alloc_far (w : World) (o : Obj) : Below w.heap.size w (w.alloc o) := (Below.refl _ _).alloc (Nat.le_refl _) _
end
theorem new_far {w w' : World} {o : Obj} (h : (w.alloc o).grownBy w' (some w.heap.size)) : Below w.heap.size w w' :=
 ((Below.refl w.heap.size w).alloc (Nat.le_refl _) o).grown h (by simp) (fun k hk => by cases hk; exact Nat.le_refl _)
theorem ch_newL {w : World} {ao : Option Addr} {len cap : Nat} (h : ArgI w ao len cap) : Ch w.heap.size ao (min len 400) cap (w.alloc (.cells #[.slice ao (min len 400) cap, .int .i64 0] 76)) := by
 refine ⟨⟨0, Nat.zero_le _, heap_alloc_new w _⟩, by omega, fun hn => ?_⟩;obtain ⟨b, off, e, hb, hx⟩ := h.rd (by have := h.le; omega);refine ⟨b, off, e, hb, fun t ht => ?_⟩;obtain ⟨x, hx⟩ := hx t (by omega);exact ⟨x, (World.cell?_alloc_past _ _ _ hb).trans hx⟩
theorem ArgI.far {w w' : World} {ao : Option Addr} {len cap : Nat} (h : ArgI w ao len cap) (hb : Below w.heap.size w w') : ArgI w' ao len cap := by
 refine ⟨h.le, h.most, fun h0 => ?_⟩;obtain ⟨b, off, e, hlt, hx⟩ := h.rd h0;refine ⟨b, off, e, Nat.lt_of_lt_of_le hlt hb.size, fun t ht => ?_⟩;obtain ⟨x, hx⟩ := hx t ht;exact ⟨x, (hb.cell (p := ⟨b, off + t, none⟩) hlt).trans hx⟩
end Go.Proofs.YteoklapcifonaaaGreatDoor

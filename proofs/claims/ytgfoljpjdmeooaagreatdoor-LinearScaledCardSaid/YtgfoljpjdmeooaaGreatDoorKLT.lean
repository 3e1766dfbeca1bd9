/- The sanity check's normal form, out of the contract of Normal at any comparison: a text for claims, in place of LO. -/
import Derived.Test.YtgfoljpjdmeooaaGreatDoorKMC
namespace Go.Proofs.YtgfoljpjdmeooaaGreatDoor
open Go.RowKit Nmx

theorem normalT {d : Nat} {w : World} {a1 : Option Addr} {n1 c1 : Nat} {t1 : ByteArray} {p : Rat} {cs : List (List UInt8 × Rat)} (h : LV w (.agg #[.int .i64 2, .slice a1 n1 c1, .string t1]) 2 d p cs) (hne : cs ≠ []) (hd : d ≤ 70) (hE : Env w) :
    Calls Tryz.prog 22 #[.agg #[.int .i64 1, .int .i64 2, .slice a1 n1 c1, .string t1, .string ⟨#[]⟩]] w (GetsCE (27 * d + 8) ((ceI (kP cs * p) : Int) : Rat) (fun n => kP cs * cof cs n) w) := by
  refine (normalN h (.inl rfl) (.inl rfl) hd hE).mono ?_
  rintro e w' ⟨r', c', f', hn, hg⟩
  have hk : kF 1 cs = kP cs := by unfold kF; rw [if_neg (by omega)]
  rcases hn with ⟨h0, -⟩ | ⟨-, ⟨h0, -⟩ | ⟨-, -, rfl, rfl, rfl⟩ | ⟨-, h0, -⟩ | ⟨-, h0, -⟩ | ⟨-, h0, -⟩⟩
  · exact absurd h0 hne
  · exact absurd h0 (by decide)
  · rw [hk] at hg; exact hg
  · exact absurd h0 (by decide)
  · exact absurd h0 (by decide)
  · exact absurd h0 (by decide)
end Go.Proofs.YtgfoljpjdmeooaaGreatDoor
/- The sanity check of the statements on linear expressions. -/
namespace Go.Proofs.YtgfoljpjdmeooaaGreatDoor
open Go.RowKit Nmx

theorem tx_1 : TX 1 = ⟨#[49]⟩ := (tx_of (by decide +kernel)).symm
theorem tx_2 : TX 2 = ⟨#[50]⟩ := (tx_of (by decide +kernel)).symm
theorem tx_3 : TX 3 = ⟨#[51]⟩ := (tx_of (by decide +kernel)).symm
theorem tx_4 : TX 4 = ⟨#[52]⟩ := (tx_of (by decide +kernel)).symm
/-- the coefficients of the sanity check -/
def csA : List (List UInt8 × Rat) := [([120], 2), ([121], 4)]
theorem kP_A : kP csA = 1 / 2 := by decide +kernel
theorem ce_A : ceI (kP csA * 3) = 2 := by decide +kernel
theorem good_A : Good 1 csA := by
  refine ⟨⟨by decide +kernel, by decide +kernel, by decide +kernel, by decide +kernel, trivial⟩, by decide +kernel, ?_⟩
  intro x hx
  simp only [csA, List.mem_cons, List.not_mem_nil, or_false] at hx
  rcases hx with rfl | rfl
  · exact ⟨by decide +kernel, by decide +kernel⟩
  · exact ⟨by decide +kernel, by decide +kernel⟩
theorem rs_A {rs : List (List UInt8 × Rat)} (hc : Can ltB rs) (hf : ∀ n, cof rs n = kP csA * cof csA n) : rs = [([120], 1), ([121], 2)] := by
  refine can_ext ord_ltB _ _ hc ⟨by decide +kernel, by decide +kernel, by decide +kernel, by decide +kernel, trivial⟩ fun n => ?_
  rw [hf n, kP_A]
  unfold csA
  rw [cof_cons, cof_cons, cof_cons, cof_cons]
  split
  · decide +kernel
  · split
    · decide +kernel
    · show 1 / 2 * (0 : Rat) = 0
      exact Rat.mul_zero _
theorem lv_A (w : World) : LV (w.alloc (.cells #[.string ⟨#[120]⟩, .string ⟨#[50]⟩, .string ⟨#[121]⟩, .string ⟨#[52]⟩] 66)) (.agg #[.int .i64 2, .slice (some ⟨w.heap.size, 0, none⟩) 2 2, .string ⟨#[51]⟩]) 2 1 3 csA := by
  have h := heap_alloc_new w (.cells #[.string ⟨#[120]⟩, .string ⟨#[50]⟩, .string ⟨#[121]⟩, .string ⟨#[52]⟩] 66)
  refine ⟨_, w.heap.size, 0, 2, by rw [tx_3]; rfl, ⟨by decide, by decide, fun _ => rfl, fun i hi => ?_, fun i hi => ?_⟩, .inr ⟨_, _, h⟩, good_A, ⟨by decide +kernel, by decide +kernel⟩⟩
  · match i, hi with
    | 0, _ => exact heap_cell h 0
    | 1, _ => exact heap_cell h 2
  · match i, hi with
    | 0, _ => exact (heap_cell h 1).trans (by show _ = some (Value.string (TX 2)); rw [tx_2]; rfl)
    | 1, _ => exact (heap_cell h 3).trans (by show _ = some (Value.string (TX 4)); rw [tx_4]; rfl)
section
set_option maxRecDepth 100000
set_option maxHeartbeats 8000000
theorem awakeL (w : World) (hE : Env w) : Calls Tryz.prog 16 #[] w fun e w' => e = .returned (.bool true) ∧ Below w.heap.size w w' := by
  obtain ⟨m1, m2, mb⟩ := newL2 w (.cells #[.string ⟨#[120]⟩, .string ⟨#[50]⟩, .string ⟨#[121]⟩, .string ⟨#[52]⟩] 66) (.cells #[.int .i64 2, .slice (some ⟨w.heap.size, 0, none⟩) 2 2, .string ⟨#[51]⟩] 26)
  have hal : Below (w.alloc (.cells #[.string ⟨#[120]⟩, .string ⟨#[50]⟩, .string ⟨#[121]⟩, .string ⟨#[52]⟩] 66)).heap.size (w.alloc (.cells #[.string ⟨#[120]⟩, .string ⟨#[50]⟩, .string ⟨#[121]⟩, .string ⟨#[52]⟩] 66)) ((w.alloc (.cells #[.string ⟨#[120]⟩, .string ⟨#[50]⟩, .string ⟨#[121]⟩, .string ⟨#[52]⟩] 66)).alloc (.cells #[.int .i64 2, .slice (some ⟨w.heap.size, 0, none⟩) 2 2, .string ⟨#[51]⟩] 26)) := (Below.refl _ _).alloc (Nat.le_refl _) _
  have hn := normalT ((lv_A w).far hal) (by decide) (by omega) (hE.far mb)
  have HM := Lib.hid m2
  have HB := Lib.hid mb
  rw [ce_A] at hn
  have HN := Lib.hid hn
  clear m1 m2 mb hal hE hn
  go_enter Tryz.func16, Tryz.ntmps16
  go_wp2_with fail
  refine HN.out.mono ?_
  rintro e w2 ⟨rs, ao, n, cp, tx, rfl, hl, hf, hb⟩
  obtain ⟨ao', g, off, cap', he, hc, hty, hg, dc⟩ := hl
  injection he with he
  injection he with he
  injection he with _ he
  injection he with he1 he
  injection he with he2 _
  injection he1 with e1 e2 e3
  injection he2 with e4
  subst e1 e2 e3 e4
  obtain rfl := rs_A hg.can hf
  have had := hc.ad (by have := hc.le; simp at this; omega)
  subst had
  have hle := hc.le
  have n0 := hc.nu 0 (by decide)
  have n1 := hc.nu 1 (by decide)
  have hw := hb.size
  have n0' : w2.cell? ⟨g, off + 1, none⟩ = some (.string ⟨#[49]⟩) := by rw [← tx_1]; exact n0
  have n1' : w2.cell? ⟨g, off + 2 + 1, none⟩ = some (.string ⟨#[50]⟩) := by rw [← tx_2]; exact n1
  have t2 : TX ((2 : Int) : Rat) = ⟨#[50]⟩ := tx_2
  rw [t2]
  have hg2 := World.block_lt_of_cell? _ _ n0
  have hnew : ∀ o, Below w2.heap.size w2 (w2.alloc o) := fun o => (Below.refl _ _).alloc (Nat.le_refl _) _
  have k0 := fun o => ((hnew o).cell (p := ⟨g, off + 1, none⟩) (World.block_lt_of_cell? _ _ n0')).trans n0'
  have k1 := fun o => ((hnew o).cell (p := ⟨g, off + 2 + 1, none⟩) (World.block_lt_of_cell? _ _ n1')).trans n1'
  have HB2 := Lib.hid (HB.out.trans (hb.mono HB.out.size))
  clear hb hc hty hg dc hf n0 n1 t2
  go_wp2
  go_ret
  exact ⟨rfl, HB2.out.alloc (by have := HB2.out.size; omega) _⟩
end
end Go.Proofs.YtgfoljpjdmeooaaGreatDoor

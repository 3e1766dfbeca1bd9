/- Rat.String of package exact. -/
import Derived.Test.YtgehimcngljmnaaGreatDoorAH
import Derived.Deep.RegionHeld3
namespace Go.Proofs.YtgehimcngljmnaaGreatDoor
open Go.RowKit Nmx

section
set_option maxRecDepth 100000
set_option maxHeartbeats 4000000
theorem ratString_frac (v : Value) (q : Rat) (w : World) (h : RV w v q) (hE : Env w) (hd : q.den ≠ 1) (hsz : (decI q.num).length + (decI q.den).length ≤ 1000000000) : Calls Tryz.prog 67 #[v] w fun e w' => e = .returned (.string ⟨(textQ q).toArray⟩) ∧ Below w.heap.size w w' := by
  obtain ⟨s1, b1, a1, n1, c1, s2, b2, a2, n2, c2, rfl, h1, h2⟩ := rv_form h
  have hi := fun o => ratIsInt_any (.agg #[.int .i64 s1, .bool b1, .slice a1 n1 c1, .int .i64 s2, .bool b2, .slice a2 n2 c2]) q (w.alloc o) (h.far ((Below.refl _ _).alloc (Nat.le_refl _) o))
  have HB0 := Lib.hid ((Below.refl w.heap.size w).alloc (Nat.le_refl _) (.cells #[.int .i64 s1, .bool b1, .slice a1 n1 c1, .int .i64 s2, .bool b2, .slice a2 n2 c2] 63))
  have hdd : denI q = q.den := by unfold denI; rw [if_neg hd]
  rw [hdd] at h2
  have hn := fun W (hW : Below w.heap.size w W) => strAt_any q.num _ W (hE.far hW) (h1.far hW)
  have hm := fun W (hW : Below w.heap.size w W) => strAt_any (q.den : Int) _ W (hE.far hW) (h2.far hW)
  have HT := Lib.hid (textQ_den hd)
  have hdb : decide (q.den = 1) = false := by simpa using hd
  have hs1 : (⟨(decI q.num).toArray⟩ : ByteArray).size = (decI q.num).length := sz_txt _
  have hs2 : (⟨(decI q.den).toArray⟩ : ByteArray).size = (decI q.den).length := sz_txt _
  have HS : Hid ((⟨(decI q.num).toArray⟩ : ByteArray) ++ ⟨#[47]⟩ ++ ⟨(decI q.den).toArray⟩ = ⟨(textQ q).toArray⟩) := Lib.hid (by
    rw [textQ_den hd]
    apply ByteArray.ext
    rw [ByteArray.data_append, ByteArray.data_append]
    apply Array.toList_inj.1
    simp)
  rw [← hs1, ← hs2] at hsz
  generalize (⟨(decI q.num).toArray⟩ : ByteArray) = t1 at *
  generalize (⟨(decI q.den).toArray⟩ : ByteArray) = t2 at *
  have f1 : ¬ (9223372036854775807 ≤ t1.size) := by omega
  have f3 : ¬ (9223372036854775807 < t1.size + 1) := by omega
  have f4 : t1.size < 9223372036854775807 := by omega
  have f2 : ¬ (9223372036854775807 < t1.size + 1 + t2.size) := by omega
  clear h hE h1 h2 hdd hs1 hs2 hsz hd
  go_enter Tryz.func67, Tryz.ntmps67
  go_wp2_with fail
  refine (hi _).mono ?_
  rintro e w1 ⟨rfl, hb1⟩
  have HR1 := Lib.hid ((hb1.block w.heap.size (by simp)).trans (heap_alloc_new w (.cells #[.int .i64 s1, .bool b1, .slice a1 n1 c1, .int .i64 s2, .bool b2, .slice a2 n2 c2] 63)))
  have HB1 := Lib.hid (HB0.out.trans (hb1.mono (by simp)))
  obtain ⟨y0, y1, y2, y3, y4, y5, -⟩ := Dozen.of HR1.out HR1.out
  clear hb1 hi HB0
  have hlt1 := lt_of_heap HR1.out
  go_wp2
  go_region_held3 (fun w' => w'.cell? ⟨w.heap.size, 0, none⟩ = some (.int .i64 s1) ∧ w'.cell? ⟨w.heap.size, 1, none⟩ = some (.bool b1) ∧ w'.cell? ⟨w.heap.size, 2, none⟩ = some (.slice a1 n1 c1) ∧ w'.cell? ⟨w.heap.size, 3, none⟩ = some (.int .i64 s2) ∧ w'.cell? ⟨w.heap.size, 4, none⟩ = some (.bool b2) ∧ w'.cell? ⟨w.heap.size, 5, none⟩ = some (.slice a2 n2 c2))
    (first | exact ⟨y0, y1, y2, y3, y4, y5⟩ | exact K1 | exact K2 | go_keep)
    (first
      | (go_at_call 73
         first
         | (with_reducible refine (hn _ HB1.out.drew).mono ?_
            rintro e w2 ⟨rfl, hb2⟩
            have HB2 := Lib.hid (HB1.out.drew.trans (hb2.mono HB1.out.size))
            have K1 := keep6 (show Below w1.drew.heap.size w1.drew w2 from hb2) hlt1 ⟨y0, y1, y2, y3, y4, y5⟩)
         | (with_reducible refine (hm _ HB2.out).mono ?_
            rintro e w3 ⟨rfl, hb3⟩
            have HB3 := Lib.hid (HB2.out.trans (hb3.mono HB2.out.size))
            have K2 := keep6 hb3 (Nat.lt_of_lt_of_le hlt1 hb2.size) K1)))
  all_goals go_wp2
  all_goals go_ret
  all_goals exact ⟨ret_str HS.out, HB3.out⟩
theorem ratString_any (v : Value) (q : Rat) (w : World) (h : RV w v q) (hE : Env w) (hsz : (decI q.num).length + (decI q.den).length ≤ 1000000000) : Calls Tryz.prog 67 #[v] w fun e w' => e = .returned (.string ⟨(textQ q).toArray⟩) ∧ Below w.heap.size w w' := by
  by_cases hd : q.den = 1
  · exact ratString_int v q w h hE (strAt_any _) hd
  · exact ratString_frac v q w h hE hd hsz
end
end Go.Proofs.YtgehimcngljmnaaGreatDoor

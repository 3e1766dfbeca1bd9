/- The statement on two texts: its walk. -/
import Derived.Test.YtmmohhaolgblkaaDoorBQ
namespace Go.Proofs.YtmmohhaolgblkaaDoor
open Go.RowKit

theorem seqTextC (w1 w2 : World) (v : Value) (its : List It) (ts : List (List UInt8)) (hF : For 4 its ts) (h3 : ts.length ≤ 3) (hfew : its.length ≤ 363) (h2 : ∀ u ∈ ts, u.length ≤ 2000) (htx : ∀ x ∈ its, x.text.size ≤ 100)
    (hown : w2.ownsRow w1.heap.size 31 4 v its.length (flat its)) (h0 : 0 < w2.heap.size) :
    Calls Tryd.prog 13 #[v] w2 fun e w' => e = .returned (.string ⟨(lines ts).toArray⟩) ∧ Below w2.heap.size w2 w' := by
  obtain ⟨ao, g, cap, rfl, hl, hA, hg, hI⟩ := lies_of hown h0
  obtain ⟨E, X, hV, hL, hT, hX⟩ := hF.vt (by omega)
  exact formatItems_any ao g cap its E X 4 ts ⟨hV.up, hT, by omega⟩ hX h3 h2 w2 ⟨hI, hg, by omega, fun x hx => by have := htx x hx; omega⟩ hA

set_option maxHeartbeats 4000000 in
set_option maxRecDepth 100000 in
theorem concat_any (s t : ByteArray) (a1 a2 : Option Addr) (l1 l2 c1 c2 : Nat) (m : Int) (w : World) (hs : s.size ≤ maxLen) (ht : t.size ≤ maxLen) (h1 : ArgI w a1 l1 c1) (h2 : ArgI w a2 l2 c2) (hB : 0 < w.heap.size) (hM : w.cell? ⟨0, 0, none⟩ = some (.int .i64 m)) :
    Calls Tryd.prog 8 #[.string s, .string t, .slice a1 l1 c1, .slice a2 l2 c2] w fun e w' => e = .returned (.bool true) ∧ Below w.heap.size w w' := by
  unfold maxLen at hs ht
  by_cases hbig : 200 < s.size ∨ 200 < t.size
  · have haw := awake_any m w hB hM
    by_cases hbs : 200 < s.size
    · have g1 : (200 : Int) < (s.size : Int) := by omega
      go_enter Tryd.func8, Tryd.ntmps8
      go_wp2_with (go_at_call 11; refine haw.mono ?_; rintro e w' ⟨rfl, hb⟩)
      go_ret
      exact ⟨rfl, hb⟩
    · have g1 : ¬ (200 : Int) < (s.size : Int) := by omega
      have g2 : (200 : Int) < (t.size : Int) := by omega
      go_enter Tryd.func8, Tryd.ntmps8
      go_wp2_with (go_at_call 11; refine haw.mono ?_; rintro e w' ⟨rfl, hb⟩)
      go_ret
      exact ⟨rfl, hb⟩
  · have g1 : ¬ (200 : Int) < (s.size : Int) := by omega
    have g2 : ¬ (200 : Int) < (t.size : Int) := by omega
    have hs2 : s.size ≤ 10000 := by omega
    have ht2 : t.size ≤ 10000 := by omega
    have hp := parse_any m s w hB hM
    obtain ⟨r1, hr1⟩ : ∃ r1, parseT s = r1 := ⟨_, rfl⟩
    obtain ⟨r2, hr2⟩ : ∃ r2, parseT t = r2 := ⟨_, rfl⟩
    rw [hr1] at hp
    obtain ⟨a, i1, k1⟩ := r1
    obtain ⟨b, i2, k2⟩ := r2
    unfold ParsePost at hp
    simp only at hp
    have HP1 := Lib.hid hr1
    have HP2 := Lib.hid hr2
    have HAR1 := Lib.hid h1
    have HAR2 := Lib.hid h2
    have HM0 := Lib.hid hM
    clear hr1 hr2 h1 h2 hM hbig hs ht
    go_enter Tryd.func8, Tryd.ntmps8
    go_wp2_with fail
    refine hp.mono ?_
    rintro e w1 ⟨va, rfl, hoa, hb1⟩
    have hB1 : 0 < w1.heap.size := by have := hb1.size; omega
    have HB1 := Lib.hid hb1
    have HM1 := Lib.hid ((hb1.cell (p := ⟨0, 0, none⟩) hB).trans HM0.out)
    have HOA := Lib.hid hoa
    have hp2 := parse_any m t w1 hB1 HM1.out
    rw [HP2.out] at hp2
    unfold ParsePost at hp2
    simp only at hp2
    clear hp hb1 hoa
    go_wp2_with fail
    refine hp2.mono ?_
    rintro e w2 ⟨vb, rfl, hob, hb2⟩
    have hB2 : 0 < w2.heap.size := by have := hb2.size; omega
    have HB2 := Lib.hid (HB1.out.trans (hb2.mono HB1.out.size))
    have HM2 := Lib.hid ((hb2.cell (p := ⟨0, 0, none⟩) hB1).trans HM1.out)
    have HOA2 := Lib.hid (ownsRow_below HOA.out hb2 (fun g hg => (HOA.out.lt g hg).2))
    have HOB := Lib.hid hob
    clear hp2 hb2 hob HOA HB1 HM1
    by_cases hk1 : k1 = 0
    · subst hk1
      have hi1 : i1 = 0 := zero_at HP1.out
      subst hi1
      have HRA := Lib.hid (Rdy.of HP1.out hs2 HOA2.out hB2)
      by_cases hk2 : k2 = 0
      · subst hk2
        have hi2 : i2 = 0 := zero_at HP2.out
        subst hi2
        have HRB := Lib.hid (Rdy.of HP2.out ht2 HOB.out hB2)
        clear HOA2 HOB HP1 HP2 HAR1 HAR2
        have HR1 := HRA
        have HR2 := HRB
        have HBk := HB2
        have HMk := HM2
        have hBk := hB2
        clear HB2 HM2 HRA HRB
        have hcp := (cat_of s t).parse HR1.out.par HR2.out.par (by rw [ByteArray.size_append, ByteArray.size_append, show (⟨#[10]⟩ : ByteArray).size = 1 from rfl]; have := HR1.out.short; have := HR2.out.short; omega)
        have hpc := parse_any m (s ++ ⟨#[10]⟩ ++ t) w2 hBk HMk.out
        rw [hcp] at hpc
        unfold ParsePost at hpc
        simp only at hpc
        have hal := parseT_few s
        rw [HR1.out.par] at hal
        have hbl := parseT_few t
        rw [HR2.out.par] at hbl
        simp only at hal hbl
        have hcl : (a ++ moved (s.size + 1) b).length = (a ++ b).length := by rw [List.length_append, List.length_append, moved_len]
        have hsz1 := HR1.out.short
        have hsz2 := HR2.out.short
        clear hcp
        go_wp2_with fail
        refine hpc.mono ?_
        rintro e wl ⟨vc, rfl, hoc, hbl3⟩
        have hBl : 0 < wl.heap.size := by have := hbl3.size; omega
        have HBl := Lib.hid (HBk.out.trans (hbl3.mono HBk.out.size))
        have HMl := Lib.hid ((hbl3.cell (p := ⟨0, 0, none⟩) hBk).trans HMk.out)
        obtain ⟨ac, gc, cc, rfl, hLc, _⟩ := lies_none hoc hBl
        obtain ⟨_, _, aa, ga, ca, hva, hLa, hca⟩ := HR1.out.below hbl3
        obtain ⟨_, _, ab, gb, cb, hvb, hLb, hcb⟩ := HR2.out.below hbl3
        subst hva hvb
        have HLa := Lib.hid hLa
        have HLb := Lib.hid hLb
        have HLc := Lib.hid hLc
        have HNa := Lib.hid hca
        have HNb := Lib.hid hcb
        rw [hcl] at HLc ⊢
        have HCl := Lib.hid hcl
        clear hpc hoc hbl3 hLa hLb hLc hca hcb HR1 HR2 HBk HMk hcl
        go_wp2_with (at_builtin; refine wpList_append_items (by rfl) (.const (.slice none 0 0)) (.tmp 74) rfl wl.heap.size (.slice none 0 0) 0 [] rfl (World.ownsRow_nil _ _ _ _) aa ga a.length ca a rfl HNa.out HLa.out (by omega) (Nat.le_refl _) ?_)
        intro v1 wm hown1 hgrow1
        have HO1 := Lib.hid hown1
        have HG1 := Lib.hid (show Below wl.heap.size wl wm from ⟨hgrow1.os, hgrow1.tape, hgrow1.output, hgrow1.size, fun k hk => hgrow1.block k hk (by simp [Value.ownBlock])⟩)
        clear hown1 hgrow1
        go_wp2_with (at_builtin; refine wpList_append_items (by rfl) (.tmp 75) (.tmp 76) rfl wl.heap.size v1 _ _ rfl HO1.out ab gb b.length cb b rfl HNb.out (HLb.out.below HG1.out) (by omega) HG1.out.size ?_)
        intro v2 wn hown2 hgrow2
        have HG2 := Lib.hid (HG1.out.grown hgrow2 HG1.out.size (fun k hk => (HO1.out.lt k hk).1))
        have hBn : 0 < wn.heap.size := by have := HG2.out.size; omega
        have hown3 : wn.ownsRow wl.heap.size 31 4 v2 (a ++ b).length (flat (a ++ b)) := by
          rw [List.length_append, flat_append]
          simpa using hown2
        obtain ⟨a2, g2, c2, rfl, hL2⟩ := lies_of hown3 hBn
        have heq := equal_any false ac a2 gc g2 cc c2 (a ++ b).length (a ++ moved (s.size + 1) b) (a ++ b) wn (by rw [List.length_append]; omega) (HLc.out.below HG2.out) hL2 (moved_get _ _ _)
        have hab : (a ++ b).length = a.length + b.length := List.length_append ..
        rw [hab] at heq
        clear hab
        have HBn := Lib.hid (HBl.out.trans (HG2.out.mono HBl.out.size))
        have HMn := Lib.hid ((HG2.out.cell (p := ⟨0, 0, none⟩) hBl).trans HMl.out)
        clear hown2 hgrow2 hown3 hL2 HO1 HG1 HG2 HLa HLb HLc HBl HMl
        go_wp2_with fail
        refine heq.mono ?_
        rintro e wo ⟨rfl, hbo⟩
        have haw := awake_any m wo (by have := hbo.size; omega) ((hbo.cell (p := ⟨0, 0, none⟩) hBn).trans HMn.out)
        have HBo := Lib.hid (HBn.out.trans (hbo.mono HBn.out.size))
        clear heq hbo HBn HMn
        go_wp2_with (go_at_call 11; refine haw.mono ?_; rintro e wp ⟨rfl, hbp⟩)
        go_ret
        exact ⟨rfl, HBo.out.trans (hbp.mono HBo.out.size)⟩
      · have hkb : (k2 != 0) = true := by simpa using hk2
        obtain ⟨ab0, cb0, hvb0⟩ := ownsRow_len HOB.out
        clear HOA2 HP1 HOB HP2 HAR1 hk2
        go_wp2_with fail
        refine (sequence_any a2 l2 c2 w2 (HAR2.out.below HB2.out)).mono ?_
        rintro e wq1 ⟨v, its, ts, rfl, hF, h3, hfew, h2, htx, hown, hbq1⟩
        have hft := seqTextC w2 wq1 v its ts hF h3 hfew h2 htx hown (by have := hbq1.size; omega)
        have hll := lines_len ts h2
        obtain ⟨itn, hS, hPt⟩ := hF.parse (by omega) (by show (lines ts).length ≤ 65536; omega)
        have hPt2 : parseT ⟨(lines ts).toArray⟩ = (itn, 0, 0) := hPt
        have hsz : (⟨(lines ts).toArray⟩ : ByteArray).size ≤ 10000 := by
          show (lines ts).toArray.size ≤ 10000
          simp; omega
        have HPT := Lib.hid hPt2
        have HQ1 := Lib.hid (HB2.out.trans (hbq1.mono HB2.out.size))
        have HK1 := Lib.hid (HRA.out.below hbq1)
        have HMq1 := Lib.hid ((hbq1.cell (p := ⟨0, 0, none⟩) hB2).trans HM2.out)
        have hBq1 : 0 < wq1.heap.size := by have := hbq1.size; omega
        clear hF h2 htx hown hbq1 hll hS hPt hPt2
        generalize (⟨(lines ts).toArray⟩ : ByteArray) = sn at *
        go_wp2_with fail
        refine hft.mono ?_
        rintro e wq2 ⟨rfl, hbq2⟩
        have HQ2 := Lib.hid (HQ1.out.trans (hbq2.mono HQ1.out.size))
        have HK2 := Lib.hid (HK1.out.below hbq2)
        have hBq2 : 0 < wq2.heap.size := by have := hbq2.size; omega
        have HMq2 := Lib.hid ((hbq2.cell (p := ⟨0, 0, none⟩) hBq1).trans HMq1.out)
        have hpq := parse_any m sn wq2 hBq2 HMq2.out
        rw [HPT.out] at hpq
        unfold ParsePost at hpq
        simp only at hpq
        clear hft hbq2 HQ1 HK1 HMq1
        go_wp2_with fail
        refine hpq.mono ?_
        rintro e w5 ⟨vn, rfl, honew, hbq3⟩
        have HB5 := Lib.hid (HQ2.out.trans (hbq3.mono HQ2.out.size))
        have HK5 := Lib.hid (HK2.out.below hbq3)
        have hB5 : 0 < w5.heap.size := by have := hbq3.size; omega
        have HM5 := Lib.hid ((hbq3.cell (p := ⟨0, 0, none⟩) hBq2).trans HMq2.out)
        have HN5 := Lib.hid (Rdy.of HPT.out hsz honew hB5)
        clear hpq honew hbq3 HQ2 HK2 HMq2 HPT hsz
        have HR1 := HK5
        have HR2 := HN5
        have HBk := HB5
        have HMk := HM5
        have hBk := hB5
        clear HB5 HM5 HK5 HN5 HRA HAR2 HB2 HM2
        have hcp := (cat_of s sn).parse HR1.out.par HR2.out.par (by rw [ByteArray.size_append, ByteArray.size_append, show (⟨#[10]⟩ : ByteArray).size = 1 from rfl]; have := HR1.out.short; have := HR2.out.short; omega)
        have hpc := parse_any m (s ++ ⟨#[10]⟩ ++ sn) w5 hBk HMk.out
        rw [hcp] at hpc
        unfold ParsePost at hpc
        simp only at hpc
        have hal := parseT_few s
        rw [HR1.out.par] at hal
        have hbl := parseT_few sn
        rw [HR2.out.par] at hbl
        simp only at hal hbl
        have hcl : (a ++ moved (s.size + 1) itn).length = (a ++ itn).length := by rw [List.length_append, List.length_append, moved_len]
        have hsz1 := HR1.out.short
        have hsz2 := HR2.out.short
        clear hcp
        go_wp2_with fail
        refine hpc.mono ?_
        rintro e wl ⟨vc, rfl, hoc, hbl3⟩
        have hBl : 0 < wl.heap.size := by have := hbl3.size; omega
        have HBl := Lib.hid (HBk.out.trans (hbl3.mono HBk.out.size))
        have HMl := Lib.hid ((hbl3.cell (p := ⟨0, 0, none⟩) hBk).trans HMk.out)
        obtain ⟨ac, gc, cc, rfl, hLc, _⟩ := lies_none hoc hBl
        obtain ⟨_, _, aa, ga, ca, hva, hLa, hca⟩ := HR1.out.below hbl3
        obtain ⟨_, _, ab, gb, cb, hvb, hLb, hcb⟩ := HR2.out.below hbl3
        subst hva hvb
        have HLa := Lib.hid hLa
        have HLb := Lib.hid hLb
        have HLc := Lib.hid hLc
        have HNa := Lib.hid hca
        have HNb := Lib.hid hcb
        rw [hcl] at HLc ⊢
        have HCl := Lib.hid hcl
        clear hpc hoc hbl3 hLa hLb hLc hca hcb HR1 HR2 HBk HMk hcl
        go_wp2_with (at_builtin; refine wpList_append_items (by rfl) (.const (.slice none 0 0)) (.tmp 74) rfl wl.heap.size (.slice none 0 0) 0 [] rfl (World.ownsRow_nil _ _ _ _) aa ga a.length ca a rfl HNa.out HLa.out (by omega) (Nat.le_refl _) ?_)
        intro v1 wm hown1 hgrow1
        have HO1 := Lib.hid hown1
        have HG1 := Lib.hid (show Below wl.heap.size wl wm from ⟨hgrow1.os, hgrow1.tape, hgrow1.output, hgrow1.size, fun k hk => hgrow1.block k hk (by simp [Value.ownBlock])⟩)
        clear hown1 hgrow1
        go_wp2_with (at_builtin; refine wpList_append_items (by rfl) (.tmp 75) (.tmp 76) rfl wl.heap.size v1 _ _ rfl HO1.out ab gb itn.length cb itn rfl HNb.out (HLb.out.below HG1.out) (by omega) HG1.out.size ?_)
        intro v2 wn hown2 hgrow2
        have HG2 := Lib.hid (HG1.out.grown hgrow2 HG1.out.size (fun k hk => (HO1.out.lt k hk).1))
        have hBn : 0 < wn.heap.size := by have := HG2.out.size; omega
        have hown3 : wn.ownsRow wl.heap.size 31 4 v2 (a ++ itn).length (flat (a ++ itn)) := by
          rw [List.length_append, flat_append]
          simpa using hown2
        obtain ⟨a2, g2, c2, rfl, hL2⟩ := lies_of hown3 hBn
        have heq := equal_any false ac a2 gc g2 cc c2 (a ++ itn).length (a ++ moved (s.size + 1) itn) (a ++ itn) wn (by rw [List.length_append]; omega) (HLc.out.below HG2.out) hL2 (moved_get _ _ _)
        have hab : (a ++ itn).length = a.length + itn.length := List.length_append ..
        rw [hab] at heq
        clear hab
        have HBn := Lib.hid (HBl.out.trans (HG2.out.mono HBl.out.size))
        have HMn := Lib.hid ((HG2.out.cell (p := ⟨0, 0, none⟩) hBl).trans HMl.out)
        clear hown2 hgrow2 hown3 hL2 HO1 HG1 HG2 HLa HLb HLc HBl HMl
        go_wp2_with fail
        refine heq.mono ?_
        rintro e wo ⟨rfl, hbo⟩
        have haw := awake_any m wo (by have := hbo.size; omega) ((hbo.cell (p := ⟨0, 0, none⟩) hBn).trans HMn.out)
        have HBo := Lib.hid (HBn.out.trans (hbo.mono HBn.out.size))
        clear heq hbo HBn HMn
        go_wp2_with (go_at_call 11; refine haw.mono ?_; rintro e wp ⟨rfl, hbp⟩)
        go_ret
        exact ⟨rfl, HBo.out.trans (hbp.mono HBo.out.size)⟩
    · have hka : (k1 != 0) = true := by simpa using hk1
      by_cases hk2 : k2 = 0
      · subst hk2
        have hi2 : i2 = 0 := zero_at HP2.out
        subst hi2
        have HRB := Lib.hid (Rdy.of HP2.out ht2 HOB.out hB2)
        clear HOA2 HP1 HOB HP2 HAR2 hk1
        go_wp2_with fail
        refine (sequence_any a1 l1 c1 w2 (HAR1.out.below HB2.out)).mono ?_
        rintro e wq1 ⟨v, its, ts, rfl, hF, h3, hfew, h2, htx, hown, hbq1⟩
        have hft := seqTextC w2 wq1 v its ts hF h3 hfew h2 htx hown (by have := hbq1.size; omega)
        have hll := lines_len ts h2
        obtain ⟨itn, hS, hPt⟩ := hF.parse (by omega) (by show (lines ts).length ≤ 65536; omega)
        have hPt2 : parseT ⟨(lines ts).toArray⟩ = (itn, 0, 0) := hPt
        have hsz : (⟨(lines ts).toArray⟩ : ByteArray).size ≤ 10000 := by
          show (lines ts).toArray.size ≤ 10000
          simp; omega
        have HPT := Lib.hid hPt2
        have HQ1 := Lib.hid (HB2.out.trans (hbq1.mono HB2.out.size))
        have HK1 := Lib.hid (HRB.out.below hbq1)
        have HMq1 := Lib.hid ((hbq1.cell (p := ⟨0, 0, none⟩) hB2).trans HM2.out)
        have hBq1 : 0 < wq1.heap.size := by have := hbq1.size; omega
        clear hF h2 htx hown hbq1 hll hS hPt hPt2
        generalize (⟨(lines ts).toArray⟩ : ByteArray) = sn at *
        go_wp2_with fail
        refine hft.mono ?_
        rintro e wq2 ⟨rfl, hbq2⟩
        have HQ2 := Lib.hid (HQ1.out.trans (hbq2.mono HQ1.out.size))
        have HK2 := Lib.hid (HK1.out.below hbq2)
        have hBq2 : 0 < wq2.heap.size := by have := hbq2.size; omega
        have HMq2 := Lib.hid ((hbq2.cell (p := ⟨0, 0, none⟩) hBq1).trans HMq1.out)
        have hpq := parse_any m sn wq2 hBq2 HMq2.out
        rw [HPT.out] at hpq
        unfold ParsePost at hpq
        simp only at hpq
        clear hft hbq2 HQ1 HK1 HMq1
        go_wp2_with fail
        refine hpq.mono ?_
        rintro e w5 ⟨vn, rfl, honew, hbq3⟩
        have HB5 := Lib.hid (HQ2.out.trans (hbq3.mono HQ2.out.size))
        have HK5 := Lib.hid (HK2.out.below hbq3)
        have hB5 : 0 < w5.heap.size := by have := hbq3.size; omega
        have HM5 := Lib.hid ((hbq3.cell (p := ⟨0, 0, none⟩) hBq2).trans HMq2.out)
        have HN5 := Lib.hid (Rdy.of HPT.out hsz honew hB5)
        clear hpq honew hbq3 HQ2 HK2 HMq2 HPT hsz
        have HR1 := HN5
        have HR2 := HK5
        have HBk := HB5
        have HMk := HM5
        have hBk := hB5
        clear HB5 HM5 HK5 HN5 HRB HAR1 HB2 HM2
        have hcp := (cat_of sn t).parse HR1.out.par HR2.out.par (by rw [ByteArray.size_append, ByteArray.size_append, show (⟨#[10]⟩ : ByteArray).size = 1 from rfl]; have := HR1.out.short; have := HR2.out.short; omega)
        have hpc := parse_any m (sn ++ ⟨#[10]⟩ ++ t) w5 hBk HMk.out
        rw [hcp] at hpc
        unfold ParsePost at hpc
        simp only at hpc
        have hal := parseT_few sn
        rw [HR1.out.par] at hal
        have hbl := parseT_few t
        rw [HR2.out.par] at hbl
        simp only at hal hbl
        have hcl : (itn ++ moved (sn.size + 1) b).length = (itn ++ b).length := by rw [List.length_append, List.length_append, moved_len]
        have hsz1 := HR1.out.short
        have hsz2 := HR2.out.short
        clear hcp
        go_wp2_with fail
        refine hpc.mono ?_
        rintro e wl ⟨vc, rfl, hoc, hbl3⟩
        have hBl : 0 < wl.heap.size := by have := hbl3.size; omega
        have HBl := Lib.hid (HBk.out.trans (hbl3.mono HBk.out.size))
        have HMl := Lib.hid ((hbl3.cell (p := ⟨0, 0, none⟩) hBk).trans HMk.out)
        obtain ⟨ac, gc, cc, rfl, hLc, _⟩ := lies_none hoc hBl
        obtain ⟨_, _, aa, ga, ca, hva, hLa, hca⟩ := HR1.out.below hbl3
        obtain ⟨_, _, ab, gb, cb, hvb, hLb, hcb⟩ := HR2.out.below hbl3
        subst hva hvb
        have HLa := Lib.hid hLa
        have HLb := Lib.hid hLb
        have HLc := Lib.hid hLc
        have HNa := Lib.hid hca
        have HNb := Lib.hid hcb
        rw [hcl] at HLc ⊢
        have HCl := Lib.hid hcl
        clear hpc hoc hbl3 hLa hLb hLc hca hcb HR1 HR2 HBk HMk hcl
        go_wp2_with (at_builtin; refine wpList_append_items (by rfl) (.const (.slice none 0 0)) (.tmp 74) rfl wl.heap.size (.slice none 0 0) 0 [] rfl (World.ownsRow_nil _ _ _ _) aa ga itn.length ca itn rfl HNa.out HLa.out (by omega) (Nat.le_refl _) ?_)
        intro v1 wm hown1 hgrow1
        have HO1 := Lib.hid hown1
        have HG1 := Lib.hid (show Below wl.heap.size wl wm from ⟨hgrow1.os, hgrow1.tape, hgrow1.output, hgrow1.size, fun k hk => hgrow1.block k hk (by simp [Value.ownBlock])⟩)
        clear hown1 hgrow1
        go_wp2_with (at_builtin; refine wpList_append_items (by rfl) (.tmp 75) (.tmp 76) rfl wl.heap.size v1 _ _ rfl HO1.out ab gb b.length cb b rfl HNb.out (HLb.out.below HG1.out) (by omega) HG1.out.size ?_)
        intro v2 wn hown2 hgrow2
        have HG2 := Lib.hid (HG1.out.grown hgrow2 HG1.out.size (fun k hk => (HO1.out.lt k hk).1))
        have hBn : 0 < wn.heap.size := by have := HG2.out.size; omega
        have hown3 : wn.ownsRow wl.heap.size 31 4 v2 (itn ++ b).length (flat (itn ++ b)) := by
          rw [List.length_append, flat_append]
          simpa using hown2
        obtain ⟨a2, g2, c2, rfl, hL2⟩ := lies_of hown3 hBn
        have heq := equal_any false ac a2 gc g2 cc c2 (itn ++ b).length (itn ++ moved (sn.size + 1) b) (itn ++ b) wn (by rw [List.length_append]; omega) (HLc.out.below HG2.out) hL2 (moved_get _ _ _)
        have hab : (itn ++ b).length = itn.length + b.length := List.length_append ..
        rw [hab] at heq
        clear hab
        have HBn := Lib.hid (HBl.out.trans (HG2.out.mono HBl.out.size))
        have HMn := Lib.hid ((HG2.out.cell (p := ⟨0, 0, none⟩) hBl).trans HMl.out)
        clear hown2 hgrow2 hown3 hL2 HO1 HG1 HG2 HLa HLb HLc HBl HMl
        go_wp2_with fail
        refine heq.mono ?_
        rintro e wo ⟨rfl, hbo⟩
        have haw := awake_any m wo (by have := hbo.size; omega) ((hbo.cell (p := ⟨0, 0, none⟩) hBn).trans HMn.out)
        have HBo := Lib.hid (HBn.out.trans (hbo.mono HBn.out.size))
        clear heq hbo HBn HMn
        go_wp2_with (go_at_call 11; refine haw.mono ?_; rintro e wp ⟨rfl, hbp⟩)
        go_ret
        exact ⟨rfl, HBo.out.trans (hbp.mono HBo.out.size)⟩
      · have hkb : (k2 != 0) = true := by simpa using hk2
        have HKX := Lib.hid (HAR2.out.below HB2.out)
        clear HOA2 HP1 HOB HP2 hk1 hk2
        go_wp2_with fail
        refine (sequence_any a1 l1 c1 w2 (HAR1.out.below HB2.out)).mono ?_
        rintro e wq1 ⟨v, its, ts, rfl, hF, h3, hfew, h2, htx, hown, hbq1⟩
        have hft := seqTextC w2 wq1 v its ts hF h3 hfew h2 htx hown (by have := hbq1.size; omega)
        have hll := lines_len ts h2
        obtain ⟨itn, hS, hPt⟩ := hF.parse (by omega) (by show (lines ts).length ≤ 65536; omega)
        have hPt2 : parseT ⟨(lines ts).toArray⟩ = (itn, 0, 0) := hPt
        have hsz : (⟨(lines ts).toArray⟩ : ByteArray).size ≤ 10000 := by
          show (lines ts).toArray.size ≤ 10000
          simp; omega
        have HPT := Lib.hid hPt2
        have HQ1 := Lib.hid (HB2.out.trans (hbq1.mono HB2.out.size))
        have HK1 := Lib.hid (HKX.out.below hbq1)
        have HMq1 := Lib.hid ((hbq1.cell (p := ⟨0, 0, none⟩) hB2).trans HM2.out)
        have hBq1 : 0 < wq1.heap.size := by have := hbq1.size; omega
        clear hF h2 htx hown hbq1 hll hS hPt hPt2
        generalize (⟨(lines ts).toArray⟩ : ByteArray) = sn at *
        go_wp2_with fail
        refine hft.mono ?_
        rintro e wq2 ⟨rfl, hbq2⟩
        have HQ2 := Lib.hid (HQ1.out.trans (hbq2.mono HQ1.out.size))
        have HK2 := Lib.hid (HK1.out.below hbq2)
        have hBq2 : 0 < wq2.heap.size := by have := hbq2.size; omega
        have HMq2 := Lib.hid ((hbq2.cell (p := ⟨0, 0, none⟩) hBq1).trans HMq1.out)
        have hpq := parse_any m sn wq2 hBq2 HMq2.out
        rw [HPT.out] at hpq
        unfold ParsePost at hpq
        simp only at hpq
        clear hft hbq2 HQ1 HK1 HMq1
        go_wp2_with fail
        refine hpq.mono ?_
        rintro e w5 ⟨vn, rfl, honew, hbq3⟩
        have HB5 := Lib.hid (HQ2.out.trans (hbq3.mono HQ2.out.size))
        have HK5 := Lib.hid (HK2.out.below hbq3)
        have hB5 : 0 < w5.heap.size := by have := hbq3.size; omega
        have HM5 := Lib.hid ((hbq3.cell (p := ⟨0, 0, none⟩) hBq2).trans HMq2.out)
        have HN5 := Lib.hid (Rdy.of HPT.out hsz honew hB5)
        clear hpq honew hbq3 HQ2 HK2 HMq2 HPT hsz
        clear HKX HAR1 HB2 HM2 HK5
        go_wp2_with fail
        refine (sequence_any a2 l2 c2 w5 (HAR2.out.below HB5.out)).mono ?_
        rintro e wq1 ⟨v, its, ts, rfl, hF, h3, hfew, h2, htx, hown, hbq1⟩
        have hft := seqTextC w5 wq1 v its ts hF h3 hfew h2 htx hown (by have := hbq1.size; omega)
        have hll := lines_len ts h2
        obtain ⟨itm, hS, hPt⟩ := hF.parse (by omega) (by show (lines ts).length ≤ 65536; omega)
        have hPt2 : parseT ⟨(lines ts).toArray⟩ = (itm, 0, 0) := hPt
        have hsz : (⟨(lines ts).toArray⟩ : ByteArray).size ≤ 10000 := by
          show (lines ts).toArray.size ≤ 10000
          simp; omega
        have HPT := Lib.hid hPt2
        have HQ1 := Lib.hid (HB5.out.trans (hbq1.mono HB5.out.size))
        have HK1 := Lib.hid (HN5.out.below hbq1)
        have HMq1 := Lib.hid ((hbq1.cell (p := ⟨0, 0, none⟩) hB5).trans HM5.out)
        have hBq1 : 0 < wq1.heap.size := by have := hbq1.size; omega
        clear hF h2 htx hown hbq1 hll hS hPt hPt2
        generalize (⟨(lines ts).toArray⟩ : ByteArray) = sm at *
        go_wp2_with fail
        refine hft.mono ?_
        rintro e wq2 ⟨rfl, hbq2⟩
        have HQ2 := Lib.hid (HQ1.out.trans (hbq2.mono HQ1.out.size))
        have HK2 := Lib.hid (HK1.out.below hbq2)
        have hBq2 : 0 < wq2.heap.size := by have := hbq2.size; omega
        have HMq2 := Lib.hid ((hbq2.cell (p := ⟨0, 0, none⟩) hBq1).trans HMq1.out)
        have hpq := parse_any m sm wq2 hBq2 HMq2.out
        rw [HPT.out] at hpq
        unfold ParsePost at hpq
        simp only at hpq
        clear hft hbq2 HQ1 HK1 HMq1
        go_wp2_with fail
        refine hpq.mono ?_
        rintro e w8 ⟨vm, rfl, honew, hbq3⟩
        have HB8 := Lib.hid (HQ2.out.trans (hbq3.mono HQ2.out.size))
        have HK8 := Lib.hid (HK2.out.below hbq3)
        have hB8 : 0 < w8.heap.size := by have := hbq3.size; omega
        have HM8 := Lib.hid ((hbq3.cell (p := ⟨0, 0, none⟩) hBq2).trans HMq2.out)
        have HN8 := Lib.hid (Rdy.of HPT.out hsz honew hB8)
        clear hpq honew hbq3 HQ2 HK2 HMq2 HPT hsz
        have HR1 := HK8
        have HR2 := HN8
        have HBk := HB8
        have HMk := HM8
        have hBk := hB8
        clear HB8 HM8 HK8 HN8 HN5 HAR2 HB5 HM5
        have hcp := (cat_of sn sm).parse HR1.out.par HR2.out.par (by rw [ByteArray.size_append, ByteArray.size_append, show (⟨#[10]⟩ : ByteArray).size = 1 from rfl]; have := HR1.out.short; have := HR2.out.short; omega)
        have hpc := parse_any m (sn ++ ⟨#[10]⟩ ++ sm) w8 hBk HMk.out
        rw [hcp] at hpc
        unfold ParsePost at hpc
        simp only at hpc
        have hal := parseT_few sn
        rw [HR1.out.par] at hal
        have hbl := parseT_few sm
        rw [HR2.out.par] at hbl
        simp only at hal hbl
        have hcl : (itn ++ moved (sn.size + 1) itm).length = (itn ++ itm).length := by rw [List.length_append, List.length_append, moved_len]
        have hsz1 := HR1.out.short
        have hsz2 := HR2.out.short
        clear hcp
        go_wp2_with fail
        refine hpc.mono ?_
        rintro e wl ⟨vc, rfl, hoc, hbl3⟩
        have hBl : 0 < wl.heap.size := by have := hbl3.size; omega
        have HBl := Lib.hid (HBk.out.trans (hbl3.mono HBk.out.size))
        have HMl := Lib.hid ((hbl3.cell (p := ⟨0, 0, none⟩) hBk).trans HMk.out)
        obtain ⟨ac, gc, cc, rfl, hLc, _⟩ := lies_none hoc hBl
        obtain ⟨_, _, aa, ga, ca, hva, hLa, hca⟩ := HR1.out.below hbl3
        obtain ⟨_, _, ab, gb, cb, hvb, hLb, hcb⟩ := HR2.out.below hbl3
        subst hva hvb
        have HLa := Lib.hid hLa
        have HLb := Lib.hid hLb
        have HLc := Lib.hid hLc
        have HNa := Lib.hid hca
        have HNb := Lib.hid hcb
        rw [hcl] at HLc ⊢
        have HCl := Lib.hid hcl
        clear hpc hoc hbl3 hLa hLb hLc hca hcb HR1 HR2 HBk HMk hcl
        go_wp2_with (at_builtin; refine wpList_append_items (by rfl) (.const (.slice none 0 0)) (.tmp 74) rfl wl.heap.size (.slice none 0 0) 0 [] rfl (World.ownsRow_nil _ _ _ _) aa ga itn.length ca itn rfl HNa.out HLa.out (by omega) (Nat.le_refl _) ?_)
        intro v1 wm hown1 hgrow1
        have HO1 := Lib.hid hown1
        have HG1 := Lib.hid (show Below wl.heap.size wl wm from ⟨hgrow1.os, hgrow1.tape, hgrow1.output, hgrow1.size, fun k hk => hgrow1.block k hk (by simp [Value.ownBlock])⟩)
        clear hown1 hgrow1
        go_wp2_with (at_builtin; refine wpList_append_items (by rfl) (.tmp 75) (.tmp 76) rfl wl.heap.size v1 _ _ rfl HO1.out ab gb itm.length cb itm rfl HNb.out (HLb.out.below HG1.out) (by omega) HG1.out.size ?_)
        intro v2 wn hown2 hgrow2
        have HG2 := Lib.hid (HG1.out.grown hgrow2 HG1.out.size (fun k hk => (HO1.out.lt k hk).1))
        have hBn : 0 < wn.heap.size := by have := HG2.out.size; omega
        have hown3 : wn.ownsRow wl.heap.size 31 4 v2 (itn ++ itm).length (flat (itn ++ itm)) := by
          rw [List.length_append, flat_append]
          simpa using hown2
        obtain ⟨a2, g2, c2, rfl, hL2⟩ := lies_of hown3 hBn
        have heq := equal_any false ac a2 gc g2 cc c2 (itn ++ itm).length (itn ++ moved (sn.size + 1) itm) (itn ++ itm) wn (by rw [List.length_append]; omega) (HLc.out.below HG2.out) hL2 (moved_get _ _ _)
        have hab : (itn ++ itm).length = itn.length + itm.length := List.length_append ..
        rw [hab] at heq
        clear hab
        have HBn := Lib.hid (HBl.out.trans (HG2.out.mono HBl.out.size))
        have HMn := Lib.hid ((HG2.out.cell (p := ⟨0, 0, none⟩) hBl).trans HMl.out)
        clear hown2 hgrow2 hown3 hL2 HO1 HG1 HG2 HLa HLb HLc HBl HMl
        go_wp2_with fail
        refine heq.mono ?_
        rintro e wo ⟨rfl, hbo⟩
        have haw := awake_any m wo (by have := hbo.size; omega) ((hbo.cell (p := ⟨0, 0, none⟩) hBn).trans HMn.out)
        have HBo := Lib.hid (HBn.out.trans (hbo.mono HBn.out.size))
        clear heq hbo HBn HMn
        go_wp2_with (go_at_call 11; refine haw.mono ?_; rintro e wp ⟨rfl, hbp⟩)
        go_ret
        exact ⟨rfl, HBo.out.trans (hbp.mono HBo.out.size)⟩
end Go.Proofs.YtmmohhaolgblkaaDoor

/- 'text' reads a string in quotes. -/
import Derived.Test.YtaffbaacilglgaaGreatDoorKSE
namespace Go.Proofs.YtaffbaacilglgaaGreatDoor.Se
open Go.RowKit

/-- what a call far above the reader leaves of it -/
theorem Rd.far {B b : Nat} {w w' : World} {s p its op vi vo} (h : Rd B w s p its op vi vo) (hB : B < b) (hi : ∀ g, vi.ownBlock = some g → g < b) (ho : ∀ g, vo.ownBlock = some g → g < b) (hb : Below b w w') : Rd B w' s p its op vi vo := by
  have key : ∀ (e z n : Nat) (v : Value) (xs : List Value), (∀ g, v.ownBlock = some g → g < b) → w.ownsRow (B + 1) e z v n xs → w'.ownsRow (B + 1) e z v n xs := by
    intro e z n v xs hv hr
    obtain ⟨hl, h0 | ⟨g, cap, cur, hvv, hg, hh, r⟩⟩ := hr
    · exact ⟨hl, .inl h0⟩
    · exact ⟨hl, .inr ⟨g, cap, cur, hvv, hg, by rw [hb.block g (hv g (by rw [hvv]; rfl))]; exact hh, r⟩⟩
  exact ⟨by rw [hb.block B hB]; exact h.blk, key _ _ _ _ _ hi h.rowi, key _ _ _ _ _ ho h.rowo⟩

/-- the reader with its two slices named, and what stands below it -/
structure At (m : Int) (B : Nat) (w0 w : World) (s : ByteArray) (p : Nat) (its : List It) (op : List Nat) (vi vo : Value) : Prop where
  rd : Rd B w s p its op vi vo
  below : Below B w0 w
  has : B < w.heap.size
  big : 0 < B
  len : w.cell? ⟨0, 0, none⟩ = some (.int .i64 m)
theorem At.inv {m B w0 w s p its op vi vo} (h : At m B w0 w s p its op vi vo) : Inv m B w0 w s p its op := ⟨⟨vi, vo, h.rd⟩, h.below, h.has, h.big, h.len⟩
theorem Inv.at {m B w0 w s p its op} (h : Inv m B w0 w s p its op) : ∃ vi vo, At m B w0 w s p its op vi vo := let ⟨vi, vo, r⟩ := h.rd; ⟨vi, vo, ⟨r, h.below, h.has, h.big, h.len⟩⟩
theorem At.drewN {m B w0 w s p its op vi vo} (h : At m B w0 w s p its op vi vo) (n : Nat) : At m B w0 (w.drewN n) s p its op vi vo :=
  ⟨⟨h.rd.blk, h.rd.rowi, h.rd.rowo⟩, below_drewN h.below n, h.has, h.big, h.len⟩
theorem At.setPos {m B w0 w s p its op vi vo} (h : At m B w0 w s p its op vi vo) (p' : Nat) (q : Int) (hq : q = p') : At m B w0 (w.setCell ⟨B, 1, none⟩ (.int .i64 q)) s p' its op vi vo := by
  subst hq
  obtain ⟨hr, hb, hh, h0, hl⟩ := h
  refine ⟨⟨?_, ?_, ?_⟩, hb.setCell (Nat.le_refl B) _, ?_, h0, ?_⟩
  · simp [World.setCell, Array.getElem?_modify, hr.blk]
  · exact ownsRow_setCell_below hr.rowi (a := ⟨B, 1, none⟩) (by show B < B + 1; omega) _
  · exact ownsRow_setCell_below hr.rowo (a := ⟨B, 1, none⟩) (by show B < B + 1; omega) _
  · simpa [World.setCell] using hh
  · rw [World.cell?_setCell_other _ _ _ _ (by simp)]; exact hl
theorem At.far {m B w0 w w' s p its op vi vo} {b : Nat} (h : At m B w0 w s p its op vi vo) (hB : B < b) (hi : ∀ g, vi.ownBlock = some g → g < b) (ho : ∀ g, vo.ownBlock = some g → g < b) (hb : Below b w w') : At m B w0 w' s p its op vi vo :=
  ⟨h.rd.far hB hi ho hb, h.below.trans (hb.mono (Nat.le_of_lt hB)), Nat.lt_of_lt_of_le h.has hb.size, h.big, (hb.cell (p := ⟨0, 0, none⟩) (by show 0 < b; omega)).trans h.len⟩
theorem At.ofAlloc {m B w0 w s p its op vi vo} (h : At m B w0 w s p its op vi vo) (o : Obj) : At m B w0 (w.alloc o) s p its op vi vo :=
  h.far h.has (fun g hg => (h.rd.rowi.lt g hg).2) (fun g hg => (h.rd.rowo.lt g hg).2) ((Below.refl _ _).alloc (Nat.le_refl _) _)
theorem At.cellAt {m B w0 w s p its op vi vo} (h : At m B w0 w s p its op vi vo) : w.cell? ⟨B, 1, none⟩ = some (.int .i64 p) := h.rd.at

theorem builder_setPos {B b : Nat} {bs : List Value} {w : World} (h : Lib.IsBuilder 59 5 b b bs w) (hB : B < b) (j : Nat) (v : Value) : Lib.IsBuilder 59 5 b b bs (w.setCell ⟨B, j, none⟩ v) := by
  have key : ∀ p, Lib.BuilderAt 59 5 b b p bs w → Lib.BuilderAt 59 5 b b p bs (w.setCell ⟨B, j, none⟩ v) := by
    rintro p ⟨h1, u, h2, h3, h4⟩
    exact ⟨h1, u, by rw [Below.heap_setCell _ _ _ _ (by show b ≠ B; omega)]; exact h2, ownsRow_setCell_below h3 (a := ⟨B, j, none⟩) hB v, h4⟩
  exact h.elim (fun x => .inl (key _ x)) (fun x => .inr (key _ x))
theorem builder_drewN {b : Nat} {bs : List Value} {w : World} (h : Lib.IsBuilder 59 5 b b bs w) (n : Nat) : Lib.IsBuilder 59 5 b b bs (w.drewN n) := h
theorem builder_new (w : World) : Lib.IsBuilder 59 5 w.heap.size w.heap.size (Lib.byteCells []) (w.alloc (.cells #[.pointer none, .slice none 0 0] 59)) :=
  .inl ⟨Nat.le_refl _, .slice none 0 0, by show (w.heap.push _)[w.heap.size]? = _; simp, World.ownsRow_nil _ _ _ _, by simp [Value.ownBlock]⟩

def TextPost (m : Int) (B : Nat) (w0 : World) (s : ByteArray) (p : Nat) (its : List It) (op : List Nat) (e : Ending) (w' : World) : Prop :=
  match Sx.textN (s.data.toList.drop (p + 1)) with
  | some x => e = .returned (.tuple #[.string ⟨x.1.toArray⟩, .bool true]) ∧ Inv m B w0 w' s (p + 1 + x.2) its op
  | none => e = .returned (.tuple #[.string ⟨#[]⟩, .bool false]) ∧ ∃ k, k ≤ s.size ∧ Inv m B w0 w' s k its op
theorem TextPost.none_of {m : Int} {B : Nat} {w0 : World} {s : ByteArray} {p : Nat} {its : List It} {op : List Nat} {w' : World} {k : Nat} (h : Sx.textN (s.data.toList.drop (p + 1)) = none) (hk : k ≤ s.size) (hi : Inv m B w0 w' s k its op) :
    TextPost m B w0 s p its op (.returned (.tuple #[.string ⟨#[]⟩, .bool false])) w' := by
  unfold TextPost; rw [h]; exact ⟨rfl, k, hk, hi⟩
theorem TextPost.some_of {m : Int} {B : Nat} {w0 : World} {s : ByteArray} {p : Nat} {its : List It} {op : List Nat} {w' : World} {t : List UInt8} {n k : Nat} (h : Sx.textN (s.data.toList.drop (p + 1)) = some (t, n)) (hk : k = p + 1 + n) (hi : Inv m B w0 w' s k its op) :
    TextPost m B w0 s p its op (.returned (.tuple #[.string ⟨t.toArray⟩, .bool true])) w' := by
  unfold TextPost; rw [h]; subst hk; exact ⟨rfl, hi⟩

/-- where the loop stands: 'acc' has been read, k is next -/
def TextRel (s : ByteArray) (p k : Nat) (acc : List UInt8) : Prop :=
  (Sx.textN (s.data.toList.drop k)).map (fun x => (acc ++ x.1, k + x.2)) = (Sx.textN (s.data.toList.drop (p + 1))).map (fun x => (x.1, p + 1 + x.2))

theorem rel_end {s : ByteArray} {p k : Nat} {acc : List UInt8} (h : TextRel s p k acc) (hk : ¬ k < s.size) : Sx.textN (s.data.toList.drop (p + 1)) = none := by
  unfold TextRel at h
  rw [drop_end s k hk] at h
  simpa [Sx.textN] using h.symm
theorem rel_bad {s : ByteArray} {p k : Nat} {acc : List UInt8} (h : TextRel s p k acc) (hk : k < s.size) (hq : ¬ s[k].toNat = 34) (hb : s[k].toNat < 32 ∨ 126 < s[k].toNat) : Sx.textN (s.data.toList.drop (p + 1)) = none := by
  unfold TextRel at h
  rw [drop_at s k hk] at h
  have : Sx.textN (s[k] :: s.data.toList.drop (k + 1)) = none := by
    cases s.data.toList.drop (k + 1) with
    | nil => simp [Sx.textN, hq]
    | cons d r => simp only [Sx.textN]; rw [if_neg hq, if_pos hb]
  rw [this] at h
  simpa using h.symm
theorem rel_close {s : ByteArray} {p k : Nat} {acc : List UInt8} (h : TextRel s p k acc) (hk : k < s.size) (hq : s[k].toNat = 34) (hn : ∀ h : k + 1 < s.size, ¬ s[k + 1].toNat = 34) : ∃ n, Sx.textN (s.data.toList.drop (p + 1)) = some (acc, n) ∧ k + 1 = p + 1 + n := by
  unfold TextRel at h
  rw [drop_at s k hk] at h
  have : Sx.textN (s[k] :: s.data.toList.drop (k + 1)) = some ([], 1) := by
    by_cases h1 : k + 1 < s.size
    · rw [drop_at s (k + 1) h1]; simp only [Sx.textN]; rw [if_pos hq, if_neg (hn h1)]
    · rw [drop_end s (k + 1) h1]; simp [Sx.textN, hq]
  rw [this] at h
  cases e : Sx.textN (s.data.toList.drop (p + 1)) with
  | none => rw [e] at h; simp at h
  | some x =>
    rw [e] at h
    simp at h
    exact ⟨x.2, by rw [h.1], h.2⟩
theorem rel_quote {s : ByteArray} {p k : Nat} {acc : List UInt8} (h : TextRel s p k acc) (hk : k < s.size) (hn : k + 1 < s.size) (hq : s[k].toNat = 34) (hr : s[k + 1].toNat = 34) : TextRel s p (k + 2) (acc ++ [s[k]]) := by
  unfold TextRel at *
  rw [drop_at s k hk, drop_at s (k + 1) hn] at h
  rw [← h]
  simp only [Sx.textN]
  rw [if_pos hq, if_pos hr, Option.map_map]
  have e34 : s[k] = 34 := UInt8.toNat_inj.1 hq
  congr 1
  funext x
  simp only [Function.comp, e34, List.append_assoc, List.singleton_append, Prod.mk.injEq, true_and]
  omega
theorem rel_byte {s : ByteArray} {p k : Nat} {acc : List UInt8} (h : TextRel s p k acc) (hk : k < s.size) (hq : ¬ s[k].toNat = 34) (hb : ¬ (s[k].toNat < 32 ∨ 126 < s[k].toNat)) : TextRel s p (k + 1) (acc ++ [s[k]]) := by
  unfold TextRel at *
  rw [drop_at s k hk] at h
  rw [← h]
  cases s.data.toList.drop (k + 1) with
  | nil => simp [Sx.textN, hq]
  | cons d r =>
    rw [Sx.textN]
    rw [if_neg hq, if_neg hb, Option.map_map]
    congr 1
    funext x
    simp only [Function.comp, List.append_assoc, List.singleton_append, Prod.mk.injEq, true_and]
    omega

set_option maxHeartbeats 2000000 in
set_option maxRecDepth 100000 in
theorem text_any (m : Int) (B : Nat) (w0 w : World) (s : ByteArray) (p : Nat) (its : List It) (op : List Nat) (h : Inv m B w0 w s p its op) (hs : s.size ≤ 65536) (hp : p < s.size) :
    Calls Tryz.prog 45 #[.pointer (some ⟨B, 0, none⟩)] w (TextPost m B w0 s p its op) := by
  obtain ⟨vi, vo, ha⟩ := h.at
  clear h
  have hBb := ha.has
  have hvi : ∀ g, vi.ownBlock = some g → g < w.heap.size := fun g hg => (ha.rd.rowi.lt g hg).2
  have hvo : ∀ g, vo.ownBlock = some g → g < w.heap.size := fun g hg => (ha.rd.rowo.lt g hg).2
  have hat := ha.cellAt
  have hfz := ha.rd.fz 1
  have hnew := Lib.hid ((ha.setPos (p + 1) ((p : Int) + 1) rfl).ofAlloc (.cells #[.pointer none, .slice none 0 0] 59))
  have hsz : (w.setCell ⟨B, 1, none⟩ (.int .i64 ((p : Int) + 1))).heap.size = w.heap.size := by simp [World.setCell]
  have hbd : Hid (Lib.IsBuilder 59 5 w.heap.size w.heap.size (Lib.byteCells []) ((w.setCell ⟨B, 1, none⟩ (.int .i64 ((p : Int) + 1))).alloc (.cells #[.pointer none, .slice none 0 0] 59))) :=
    Lib.hid (by have := builder_new (w.setCell ⟨B, 1, none⟩ (.int .i64 ((p : Int) + 1))); rwa [hsz] at this)
  have hsz2 : w.heap.size ≤ ((w.setCell ⟨B, 1, none⟩ (.int .i64 ((p : Int) + 1))).alloc (.cells #[.pointer none, .slice none 0 0] 59)).heap.size := by simp [World.setCell]
  have HZ := Lib.hid hsz2
  clear hsz hsz2
  have HV := Lib.hid (And.intro hvi hvo)
  clear ha hvi hvo
  go_enter Tryz.func45, Tryz.ntmps45
  go_wp2
  generalize hb : w.heap.size = b at *
  have HB := Lib.hid hb
  clear hb
  go_loopw [5] (fun _ wr => ∃ (k : Nat) (acc : List UInt8), p + 1 ≤ k ∧ k ≤ s.size ∧ acc.length ≤ k ∧ At m B w0 wr s k its op vi vo ∧ Lib.IsBuilder 59 5 b b (Lib.byteCells acc) wr ∧ b ≤ wr.heap.size ∧ TextRel s p k acc)
    (fun _ wr => s.size - (match wr.cell? ⟨B, 1, none⟩ with | some (.int _ k) => k.toNat | _ => 0))
  case atStart => exact ⟨p + 1, [], Nat.le_refl _, hp, by simp, hnew.out, hbd.out, HZ.out, by unfold TextRel; simp⟩
  case round =>
    clear hat hfz hnew hbd HZ HB
    obtain ⟨k, acc, hk1, hk2, hacc, hAt, hBd, hbw, hrel⟩ := hrel
    have HA := Lib.hid hAt
    have HD := Lib.hid hBd
    have HR := Lib.hid hrel
    have hsrc := hAt.rd.src
    have hat := hAt.rd.at
    have hfz := hAt.rd.fz 1
    clear hAt hBd hrel
    by_cases hlt : k < s.size
    · by_cases hq : s[k].toNat = 34
      · have hq1 : ((s[k].toNat : Int) == 34) = true := by simp [hq]
        by_cases hn : k + 1 < s.size
        · have hn1 : decide ((k : Int) + 1 < s.size) = true := by simp; omega
          by_cases hr : s[k + 1].toNat = 34
          · have hr1 : ((s[k + 1].toNat : Int) == 34) = true := by simp [hr]
            have hx0 : (0 : Int) ≤ (k : Int) + 1 := by omega
            have hx1 : ((k : Int) + 1).toNat = k + 1 := by omega
            have hx2 : (k : Int) + 1 < (s.size : Int) := by omega
            have HQ := Lib.hid (And.intro hq hr)
            clear hq hr
            go_wp2
            go_quiet (fail)
            go_wp2
            go_quiet (fail)
            go_wp2
            go_quiet (fail)
            go_wp2_with (go_at_call 43; refine (writeByte_any b b _ _ _ (builder_setPos (builder_drewN HD.out _) hBb _ _) (by rw [Lib.byteCells_length]; omega) (by simpa [World.setCell] using hbw)).mono ?_; rintro e w' ⟨rfl, hbd', hbl'⟩; have hA2 := Lib.hid (((HA.out.drewN _).setPos (k + 1) ((k : Int) + 1) rfl).far hBb HV.out.1 HV.out.2 hbl'); have hc2 : w'.cell? ⟨B, 1, none⟩ = some (.int .i64 ((k : Int) + 1)) := hA2.out.cellAt; have hf2 := hA2.out.rd.fz 1; have HB2 := Lib.hid hbd'; have hs2 := Lib.hid hbl'.size; clear hbd' hbl')
            go_roundw
            case rel =>
              refine ⟨k + 2, acc ++ [s[k]], by omega, by omega, by simp; omega, hA2.out.setPos (k + 2) _ (by omega), ?_, ?_, ?_⟩
              · rw [Lib.byteCells_append]; exact builder_setPos HB2.out hBb _ _
              · have := hs2.out; simp [World.setCell] at this ⊢; omega
              · exact rel_quote HR.out hlt hn HQ.out.1 HQ.out.2
            case measure =>
              rw [World.cell?_setCell_same _ _ _ hA2.out.cellAt, hat]
              show s.size - ((k : Int) + 1 + 1).toNat < s.size - (k : Int).toNat
              omega
          · have hr1 : ((s[k + 1].toNat : Int) == 34) = false := by simp; omega
            have hx0 : (0 : Int) ≤ (k : Int) + 1 := by omega
            have hx1 : ((k : Int) + 1).toNat = k + 1 := by omega
            have hx2 : (k : Int) + 1 < (s.size : Int) := by omega
            have HN := Lib.hid (rel_close HR.out hlt hq (fun h => hr))
            clear hq hr
            go_wp2
            go_quiet (fail)
            go_wp2
            go_quiet (fail)
            go_wp2
            go_quiet (fail)
            go_wp2_with (go_at_call 23; refine (Tryz.Builder_String_any b b acc _ (builder_setPos (builder_drewN HD.out _) hBb _ _) (by simpa [World.setCell] using hbw)).mono ?_; rintro e w' ⟨rfl, hbl'⟩)
            go_ret2
            exact TextPost.some_of HN.out.choose_spec.1 HN.out.choose_spec.2 (((HA.out.drewN _).setPos (k + 1) _ rfl).far hBb HV.out.1 HV.out.2 hbl').inv
        · have hn1 : decide ((k : Int) + 1 < s.size) = false := by simp; omega
          have HN := Lib.hid (rel_close HR.out hlt hq (fun h => absurd h hn))
          clear hq
          go_wp2
          go_quiet (fail)
          go_wp2
          go_quiet (fail)
          go_wp2
          go_quiet (fail)
          go_wp2_with (go_at_call 23; refine (Tryz.Builder_String_any b b acc _ (builder_setPos (builder_drewN HD.out _) hBb _ _) (by simpa [World.setCell] using hbw)).mono ?_; rintro e w' ⟨rfl, hbl'⟩)
          go_ret2
          exact TextPost.some_of HN.out.choose_spec.1 HN.out.choose_spec.2 (((HA.out.drewN _).setPos (k + 1) _ rfl).far hBb HV.out.1 HV.out.2 hbl').inv
      · have hq1 : ((s[k].toNat : Int) == 34) = false := by simp; omega
        by_cases hbad : s[k].toNat < 32 ∨ 126 < s[k].toNat
        · have HN := Lib.hid (rel_bad HR.out hlt hq hbad)
          by_cases hlo : (s[k].toNat : Int) < 32
          all_goals
            go_wp2
            go_quiet (fail)
            go_wp2
            go_quiet (fail)
            go_wp2
            go_quiet (fail)
            go_wp2
            go_ret2
            exact TextPost.none_of HN.out hk2 (HA.out.drewN _).inv
        · have hlo : ¬ (s[k].toNat : Int) < 32 := by omega
          have hhi : ¬ 126 < (s[k].toNat : Int) := by omega
          have HN := Lib.hid (rel_byte HR.out hlt hq hbad)
          clear hq hbad
          go_wp2
          go_quiet (fail)
          go_wp2
          go_quiet (fail)
          go_wp2
          go_quiet (fail)
          go_wp2_with (go_at_call 43; refine (writeByte_any b b _ _ _ (builder_drewN HD.out _) (by rw [Lib.byteCells_length]; omega) hbw).mono ?_; rintro e w' ⟨rfl, hbd', hbl'⟩; have hA2 := Lib.hid ((HA.out.drewN _).far hBb HV.out.1 HV.out.2 hbl'); have hc2 := hA2.out.cellAt; have hf2 := hA2.out.rd.fz 1; have HB2 := Lib.hid hbd'; have hs2 := Lib.hid hbl'.size; clear hbd' hbl')
          go_roundw
          case rel =>
            refine ⟨k + 1, acc ++ [s[k]], by omega, by omega, by simp; omega, hA2.out.setPos (k + 1) _ (by omega), ?_, ?_, HN.out⟩
            · rw [Lib.byteCells_append]; exact builder_setPos HB2.out hBb _ _
            · have := hs2.out; simp [World.setCell] at this ⊢; omega
          case measure =>
            rw [World.cell?_setCell_same _ _ _ hA2.out.cellAt, hat]
            show s.size - ((k : Int) + 1).toNat < s.size - (k : Int).toNat
            omega
    · have HN := Lib.hid (rel_end HR.out hlt)
      go_wp2
      go_quiet (fail)
      go_wp2
      go_ret2
      exact TextPost.none_of HN.out hk2 (HA.out.drewN _).inv
end Go.Proofs.YtaffbaacilglgaaGreatDoor.Se

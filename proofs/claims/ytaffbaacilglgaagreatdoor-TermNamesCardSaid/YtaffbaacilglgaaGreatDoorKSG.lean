/- 'item' reads one item. -/
import Derived.Test.YtaffbaacilglgaaGreatDoorKSF
import Derived.StillTailTactics
import Derived.Deep.RegionHeld3
import Derived.Deep.AppendLies
import Derived.Deep.RegionLaw
namespace Go.Proofs.YtaffbaacilglgaaGreatDoor.Se
open Go.RowKit

structure PSt where
  pos : Nat
  its : List It
  op : List Nat

def addTo (st : PSt) (kind : Int) (text : ByteArray) (q : Nat) (pos' : Nat) : Except (Nat × Int) PSt :=
  if 256 < st.op.length then .error (q, 6) else .ok ⟨pos', bumpAt st.its st.op.getLast? ++ [⟨kind, text, 0, q⟩], st.op⟩
def wordN (s : ByteArray) (p : Nat) : Nat := ((s.data.toList.drop p).takeWhile Sx.wb).length
def itemF (s : ByteArray) (st : PSt) : Except (Nat × Int) PSt :=
  let c := ((s.data.toList.drop st.pos).headD 0).toNat
  if c = 41 then (if st.op = [] then .error (st.pos, 2) else .ok ⟨st.pos + 1, st.its, st.op.dropLast⟩)
  else if c = 40 then (match addTo st 5 ⟨#[]⟩ st.pos (st.pos + 1) with | .ok x => .ok ⟨x.pos, x.its, x.op ++ [x.its.length - 1]⟩ | .error e => .error e)
  else if c = 34 then (match Sx.textN (s.data.toList.drop (st.pos + 1)) with | some x => addTo st 4 ⟨x.1.toArray⟩ st.pos (st.pos + 1 + x.2) | none => .error (st.pos, 2))
  else
    let kind := Sx.wkind (s.extract st.pos (st.pos + wordN s st.pos)).data.toList
    if kind = 0 then .error (st.pos, 2) else addTo st kind (s.extract st.pos (st.pos + wordN s st.pos)) st.pos (st.pos + wordN s st.pos)

structure Good (p : Nat) (its : List It) (op : List Nat) : Prop where
  inop : ∀ i ∈ op, i < its.length
  kids : ∀ x ∈ its, 0 ≤ x.kids ∧ x.kids ≤ its.length
  few : its.length ≤ p
  opn : op.length ≤ its.length

def ItemPost (m : Int) (B : Nat) (w0 : World) (s : ByteArray) (st : PSt) (e : Ending) (w' : World) : Prop :=
  match itemF s st with
  | .ok x => e = .returned (.tuple #[.int .i64 0, .int .i64 0]) ∧ Inv m B w0 w' s x.pos x.its x.op
  | .error (a, k) => e = .returned (.tuple #[.int .i64 a, .int .i64 k]) ∧ Below B w0 w'
theorem ItemPost.ok_of {m : Int} {B : Nat} {w0 : World} {s : ByteArray} {st : PSt} {w' : World} {x : PSt} (h : itemF s st = .ok x) (hi : Inv m B w0 w' s x.pos x.its x.op) : ItemPost m B w0 s st (.returned (.tuple #[.int .i64 0, .int .i64 0])) w' := by
  unfold ItemPost; rw [h]; exact ⟨rfl, hi⟩
theorem ItemPost.error_of {m : Int} {B : Nat} {w0 : World} {s : ByteArray} {st : PSt} {w' : World} {a : Nat} {k : Int} (h : itemF s st = .error (a, k)) (hi : Below B w0 w') : ItemPost m B w0 s st (.returned (.tuple #[.int .i64 a, .int .i64 k])) w' := by
  unfold ItemPost; rw [h]; exact ⟨rfl, hi⟩

theorem headAt (s : ByteArray) (p : Nat) (h : p < s.size) : ((s.data.toList.drop p).headD 0) = s[p] := by rw [drop_at s p h]; rfl

theorem itemF_eq (s : ByteArray) (p : Nat) (its : List It) (op : List Nat) (h : p < s.size) : itemF s ⟨p, its, op⟩ =
    if s[p].toNat = 41 then (if op = [] then .error (p, 2) else .ok ⟨p + 1, its, op.dropLast⟩)
    else if s[p].toNat = 40 then (match addTo ⟨p, its, op⟩ 5 ⟨#[]⟩ p (p + 1) with | .ok x => .ok ⟨x.pos, x.its, x.op ++ [x.its.length - 1]⟩ | .error e => .error e)
    else if s[p].toNat = 34 then (match Sx.textN (s.data.toList.drop (p + 1)) with | some x => addTo ⟨p, its, op⟩ 4 ⟨x.1.toArray⟩ p (p + 1 + x.2) | none => .error (p, 2))
    else if Sx.wkind (s.extract p (p + wordN s p)).data.toList = 0 then .error (p, 2) else addTo ⟨p, its, op⟩ (Sx.wkind (s.extract p (p + wordN s p)).data.toList) (s.extract p (p + wordN s p)) p (p + wordN s p) := by
  unfold itemF
  rw [headAt s p h]

theorem Inv.popped {m B w0 w s p its} {op' : List Nat} {i : Nat} {vi vo : Value} (hr : Rd B w s p its (op' ++ [i]) vi vo) (h : Inv m B w0 w s p its (op' ++ [i])) {g cap : Nat} (hv : vo = .slice (some ⟨g, 0, none⟩) (op'.length + 1) cap) :
    Inv m B w0 (w.setCell ⟨B, 3, none⟩ (.slice (some ⟨g, 0, none⟩) op'.length cap)) s p its op' := by
  refine ⟨⟨vi, .slice (some ⟨g, 0, none⟩) op'.length cap, ?_, ?_, ?_⟩, h.below.setCell (Nat.le_refl B) _, ?_, h.big, ?_⟩
  · simp [World.setCell, Array.getElem?_modify, hr.blk]
  · exact ownsRow_setCell_below hr.rowi (a := ⟨B, 3, none⟩) (by show B < B + 1; omega) _
  · have := ownsRow_setCell_below hr.rowo (a := ⟨B, 3, none⟩) (by show B < B + 1; omega) (.slice (some ⟨g, 0, none⟩) op'.length cap)
    rw [hv] at this
    rw [List.length_append, List.length_singleton] at this
    obtain ⟨hl, h0 | ⟨g', cap', cur, hvv, hg, hh, hn, hc, hsz, ht⟩⟩ := this
    · exact absurd h0.2 (by omega)
    · cases hvv
      refine ⟨by simp, .inr ⟨g, cap, cur, rfl, hg, hh, by omega, hc, hsz, ?_⟩⟩
      have h2 := congrArg (List.take op'.length) ht
      simp only [Nat.mul_one, List.take_take, List.map_append] at h2
      rw [Nat.min_eq_left (by omega)] at h2
      rw [Nat.mul_one, h2]
      simp
  · simpa [World.setCell] using h.has
  · rw [World.cell?_setCell_other _ _ _ _ (by simp)]; exact h.len

set_option maxHeartbeats 1000000 in
set_option maxRecDepth 100000 in
theorem item_close (m : Int) (B : Nat) (w0 w : World) (s : ByteArray) (p : Nat) (its : List It) (op : List Nat) (h : Inv m B w0 w s p its op) (hs : s.size ≤ 65536) (hp : p < s.size) (hg : Good p its op) (hc : s[p].toNat = 41) :
    Calls Tryz.prog 25 #[.pointer (some ⟨B, 0, none⟩)] w (ItemPost m B w0 s ⟨p, its, op⟩) := by
  have hc1 : ((s[p].toNat : Int) == 41) = true := by simp [hc]
  obtain ⟨vi, vo, hr⟩ := h.rd
  have hsrc := hr.src
  have hat := hr.at
  have hfz := hr.fz 1
  have hfz3 := hr.fz 3
  have h3 := hr.ops
  by_cases hop : op = []
  · have HF := Lib.hid (show itemF s ⟨p, its, op⟩ = .error (p, 2) by rw [itemF_eq s p its op hp, if_pos hc, if_pos hop])
    have HB := Lib.hid h.below
    obtain ⟨a, cap, hvo⟩ := ownsRow_len hr.rowo
    rw [hvo, hop] at h3
    clear hr h hg hc hvo hop
    go_enter Tryz.func25, Tryz.ntmps25
    go_wp2_with fail
    go_ret2
    exact ItemPost.error_of HF.out HB.out
  · have HF := Lib.hid (show itemF s ⟨p, its, op⟩ = .ok ⟨p + 1, its, op.dropLast⟩ by rw [itemF_eq s p its op hp, if_pos hc, if_neg hop])
    obtain ⟨op', i, rfl⟩ : ∃ op' i, op = op' ++ [i] := ⟨op.dropLast, op.getLast hop, (List.dropLast_concat_getLast hop).symm⟩
    rw [List.dropLast_concat] at HF
    obtain ⟨go, co, hvo, hgo, hco⟩ := ownsRow_shape hr.rowo (by simp)
    rw [List.length_append, List.length_singleton] at hvo hco
    rw [hvo] at h3
    have hlen : op'.length + 1 ≤ 65536 := by have := hg.opn; have := hg.few; simp at *; omega
    have HP := Lib.hid (Inv.popped hr h hvo)
    have hwrap : IntKind.i64.wrap (op'.length : Int) = op'.length := by rw [IntKind.wrap_i64]; omega
    have hle : op'.length ≤ co := by omega
    have hcm : co ≤ 9223372036854775807 := by have := hco.2; unfold maxLen at this; omega
    have hidx : 0 ≤ (op'.length : Int) ∧ (op'.length : Int) < (op'.length : Int) + 1 := ⟨by omega, by omega⟩
    clear hr h hg hc hvo hop hco hgo
    go_enter Tryz.func25, Tryz.ntmps25
    go_wp2_with fail
    go_region
    have hI := HP.out.drew
    clear HP
    generalize hW : (w.setCell ⟨B, 3, none⟩ (.slice (some ⟨go, 0, none⟩) op'.length co)).drew = wz at *
    clear hW
    have hat2 := hI.cellAt
    have hfz2 := hI.rd.choose_spec.choose_spec.fz 1
    have HI := Lib.hid hI
    clear hI hat hfz hfz3 h3 hsrc hwrap hle hcm hidx
    go_wp2_with fail
    go_ret2
    exact ItemPost.ok_of HF.out (HI.out.setPos (p + 1) _ (by omega))

theorem add_ok (m : Int) (B : Nat) (w0 w : World) (s : ByteArray) (p q : Nat) (its : List It) (op : List Nat) (h : Inv m B w0 w s p its op) (hd : ¬ 256 < op.length) (hg : Good q its op) (hq : q ≤ 65536) (kind : Int) (text : ByteArray) :
    Calls Tryz.prog 44 #[.pointer (some ⟨B, 0, none⟩), .int .i64 kind, .string text, .int .i64 q] w fun e w' => e = .returned (.tuple #[.int .i64 0, .int .i64 0]) ∧ Inv m B w0 w' s p (bumpAt its op.getLast? ++ [⟨kind, text, 0, q⟩]) op := by
  by_cases hop : op = []
  · subst hop
    exact add_top m B w0 w s p its h (by have := hg.few; omega) kind q text
  · obtain ⟨op', i, rfl⟩ : ∃ op' i, op = op' ++ [i] := ⟨op.dropLast, op.getLast hop, (List.dropLast_concat_getLast hop).symm⟩
    have hi : i < its.length := hg.inop i (by simp)
    have hk := hg.kids its[i] (List.getElem_mem hi)
    have hf := hg.few
    have := add_in m B w0 w s p its op' i its[i] h (by simp at hd; omega) (List.getElem?_eq_getElem hi) ⟨hk.1, by omega⟩ (by omega) kind q text
    rw [List.getLast?_concat]
    exact this

theorem bump_len (its : List It) (o : Option Nat) : (bumpAt its o).length = its.length := by
  cases o <;> simp [bumpAt]

theorem Inv.opened {m B w0 w s p its op} {vi vo : Value} (hr : Rd B w s p its op vi vo) (h : Inv m B w0 w s p its op) (n : Nat) (o : Obj) {w2 : World} {v' : Value}
    (hown : w2.ownsRow (B + 1) 3 1 v' (op.length + 1) ((op.map fun n : Nat => Value.int .i64 n) ++ [.int .i64 n])) (hg : (w.alloc o).grownBy w2 vo.ownBlock) :
    Inv m B w0 (w2.setCell ⟨B, 3, none⟩ v') s p its (op ++ [n]) := by
  have hi := hr.rowo
  have hlt : ∀ k, vo.ownBlock = some k → B + 1 ≤ k ∧ k < w.heap.size := hi.lt
  have hB : B < (w.alloc o).heap.size := by have := h.has; simp; omega
  have hne : some B ≠ vo.ownBlock := fun e => by have := (hlt B e.symm).1; omega
  have hblk : w2.heap[B]? = some (.cells #[.string s, .int .i64 p, vi, vo] 64 (0, 0)) := by
    rw [hg.block B hB hne, ← hr.blk]
    show (w.heap.push o)[B]? = _
    rw [Array.getElem?_push, if_neg (Nat.ne_of_lt h.has)]
  have hri : w2.ownsRow (B + 1) 49 4 vi its.length (flat its) := by
    refine (hr.rowi.alloc o).kept hg ?_
    cases e : vi.ownBlock with
    | none => exact .inl rfl
    | some g => exact .inr (fun h2 => ownsRow_apart hr.rowi hr.rowo (by decide) e h2.symm)
  refine ⟨⟨vi, v', ?_, ?_, ?_⟩, ?_, ?_, h.big, ?_⟩
  · simp [World.setCell, Array.getElem?_modify, hblk]
  · exact ownsRow_setCell_below hri (a := ⟨B, 3, none⟩) (by show B < B + 1; omega) v'
  · have := ownsRow_setCell_below hown (a := ⟨B, 3, none⟩) (by show B < B + 1; omega) v'
    rw [List.length_append, List.map_append]
    simpa using this
  · exact ((h.below.alloc (Nat.le_of_lt h.has) _).grown hg (Nat.le_of_lt hB) (fun k hk => by have := (hlt k hk).1; omega)).setCell (Nat.le_refl B) _
  · have := hg.size; simp [World.setCell] at this ⊢; have := h.has; omega
  · rw [World.cell?_setCell_other _ _ _ _ (by simp)]
    refine hg.cell (a := ⟨0, 0, none⟩) ?_ (fun e => by have := (hlt 0 e.symm).1; omega)
    rw [World.cell?_alloc_past _ _ _ (by have := h.has; show 0 < _; omega)]
    exact h.len

set_option maxHeartbeats 2000000 in
set_option maxRecDepth 100000 in
theorem item_open (m : Int) (B : Nat) (w0 w : World) (s : ByteArray) (p : Nat) (its : List It) (op : List Nat) (h : Inv m B w0 w s p its op) (hs : s.size ≤ 65536) (hp : p < s.size) (hg : Good p its op) (hc : s[p].toNat = 40) :
    Calls Tryz.prog 25 #[.pointer (some ⟨B, 0, none⟩)] w (ItemPost m B w0 s ⟨p, its, op⟩) := by
  have hc0 : ((s[p].toNat : Int) == 41) = false := by simp [hc]
  have hc1 : ((s[p].toNat : Int) == 40) = true := by simp [hc]
  have HE := itemF_eq s p its op hp
  rw [if_neg (by omega), if_pos hc] at HE
  have HE := Lib.hid HE
  obtain ⟨vi, vo, hr⟩ := h.rd
  have hsrc := hr.src
  have hat := hr.at
  have hfz := hr.fz 1
  have H2 := Lib.hid (h.setPos (p + 1) ((p : Int) + 1) rfl)
  have HG := Lib.hid hg
  have h16 := hg.opn
  have h17 := hg.few
  by_cases hd : 256 < op.length
  · have HF : Hid (itemF s ⟨p, its, op⟩ = .error (p, 6)) := Lib.hid (by rw [HE.out]; unfold addTo; rw [if_pos hd])
    clear hr h hg hc HE
    go_enter Tryz.func25, Tryz.ntmps25
    go_wp2_with (go_at_call 44; refine (add_deep m B w0 _ s (p + 1) its op H2.out hd 5 p ⟨#[]⟩).mono ?_; rintro e w2 ⟨rfl, hw2⟩; subst hw2)
    have hi3 := H2.out
    clear H2 hsrc hat hfz
    generalize w.setCell ⟨B, 1, none⟩ (.int .i64 ((p : Int) + 1)) = w' at *
    obtain ⟨vi3, vo3, hr3⟩ := hi3.rd
    obtain ⟨ai, ci, hvi3⟩ := ownsRow_len hr3.rowi
    have h32 := hr3.its
    rw [hvi3] at h32
    have h33 := hr3.ops
    have f33 := hr3.fz 3
    have HI3 := Lib.hid hi3
    have HR3 := Lib.hid hr3
    clear hi3 hr3 hvi3
    obtain ⟨i0, hi, hz0, hz1, hz2⟩ := info_parts infoInt
    have hn3 : op.length + 1 ≤ 65536 + 1 := by omega
    have hHas3 := HI3.out.has
    have hwr : IntKind.i64.wrap ((its.length : Int) - 1) = (its.length : Int) - 1 := by rw [IntKind.wrap_i64]; omega
    have hne : some B ≠ vo3.ownBlock := fun e => by have := (HR3.out.rowo.lt B e.symm).1; omega
    go_region_law ((refine step_append_lies _ (by rfl) _ _ _ (by rfl) (B + 1) 3 i0 _ 1 8 Tryz.underlying46 hi hz0 hz1 hz2 rfl (by omega) vo3 op.length _ (by rfl) ((HR3.out.rowo.alloc _).drew) ⟨w'.heap.size, 0, none⟩ 1 1 [.int .i64 ((its.length : Int) - 1)] (by rfl) (by rfl) (World.news_of_block (cs := #[.int .i64 ((its.length : Int) - 1)]) (t := 3) (fr := (0, 0)) (heap_alloc_new w' _)) (by simp [Value.oneCell']) (by omega) (by unfold maxLen; omega) (by omega) (by have := HI3.out.has; simp; omega) (w'.heap.size + 1) (by simp) ?_; intro gg cap w1 hown1 hgrow hat hlt; have hc1 := hgrow.cell (a := ⟨B, 3, none⟩) ((World.cell?_alloc_past _ _ _ HI3.out.has).trans h33) hne; have hf1 : w1.frozen? ⟨B, 3, none⟩ = false := (World.frozen?_of_block (hgrow.block B (by have := HI3.out.has; simp; omega) hne)).trans ((World.frozen?_alloc_past _ _ _ HI3.out.has).trans f33)))
    all_goals
      have hI5 := Lib.hid (((HI3.out.below.alloc (Nat.le_of_lt HI3.out.has) _).grown ⟨hgrow.os, hgrow.tape, hgrow.output, hgrow.size, hgrow.block⟩ (by have := HI3.out.has; simp; omega) (fun k hk => by have := (HR3.out.rowo.lt k hk).1; omega)).setCell (p := ⟨B, 3, none⟩) (Nat.le_refl B) (.slice (some ⟨gg, 0, none⟩) (op.length + 1) cap))
      go_wp2
      go_ret2
      exact ItemPost.error_of HF.out hI5.out
  · have HF : Hid (itemF s ⟨p, its, op⟩ = .ok ⟨p + 1, bumpAt its op.getLast? ++ [⟨5, ⟨#[]⟩, 0, p⟩], op ++ [its.length]⟩) := Lib.hid (by
      rw [HE.out]; unfold addTo; rw [if_neg hd]; simp [bump_len])
    have hlb := bump_len its op.getLast?
    clear hr h hg hc HE
    go_enter Tryz.func25, Tryz.ntmps25
    go_wp2_with (go_at_call 44; refine (add_ok m B w0 _ s (p + 1) p its op H2.out hd HG.out (by omega) 5 ⟨#[]⟩).mono ?_; rintro e w' ⟨rfl, hi3⟩)
    obtain ⟨vi3, vo3, hr3⟩ := hi3.rd
    obtain ⟨ai, ci, hvi3⟩ := ownsRow_len hr3.rowi
    have h32 := hr3.its
    rw [hvi3, List.length_append, hlb, List.length_singleton] at h32
    have h33 := hr3.ops
    have f33 := hr3.fz 3
    have HI3 := Lib.hid hi3
    have HR3 := Lib.hid hr3
    clear hi3 hr3 hvi3
    obtain ⟨i0, hi, hz0, hz1, hz2⟩ := info_parts infoInt
    have hn3 : op.length + 1 ≤ 65536 := by omega
    have hHas3 := HI3.out.has
    have hwr : IntKind.i64.wrap (its.length : Int) = its.length := by rw [IntKind.wrap_i64]; omega
    have hne : some B ≠ vo3.ownBlock := fun e => by have := (HR3.out.rowo.lt B e.symm).1; omega
    go_region_law ((refine step_append_lies _ (by rfl) _ _ _ (by rfl) (B + 1) 3 i0 _ 1 8 Tryz.underlying46 hi hz0 hz1 hz2 rfl (by omega) vo3 op.length _ (by rfl) ((HR3.out.rowo.alloc _).drew) ⟨w'.heap.size, 0, none⟩ 1 1 [.int .i64 its.length] (by rfl) (by rfl) (World.news_of_block (cs := #[.int .i64 its.length]) (t := 3) (fr := (0, 0)) (heap_alloc_new w' _)) (by simp [Value.oneCell']) (by omega) (by unfold maxLen; omega) (by omega) (by have := HI3.out.has; simp; omega) (w'.heap.size + 1) (by simp) ?_; intro gg cap w1 hown1 hgrow hat hlt; have hc1 := hgrow.cell (a := ⟨B, 3, none⟩) ((World.cell?_alloc_past _ _ _ HI3.out.has).trans h33) hne; have hf1 : w1.frozen? ⟨B, 3, none⟩ = false := (World.frozen?_of_block (hgrow.block B (by have := HI3.out.has; simp; omega) hne)).trans ((World.frozen?_alloc_past _ _ _ HI3.out.has).trans f33)))
    all_goals
      have hI5 := Lib.hid (Inv.opened HR3.out HI3.out its.length _ (by simpa using hown1) ⟨hgrow.os, hgrow.tape, hgrow.output, hgrow.size, hgrow.block⟩)
      go_wp2
      go_ret2
      exact ItemPost.ok_of HF.out hI5.out
end Go.Proofs.YtaffbaacilglgaaGreatDoor.Se

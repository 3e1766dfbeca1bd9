/- The reader of package sexpr: its four cells and what it owns; 'skip' passes what it passes, for every text. -/
import Derived.Test.YtmmohhaolgblkaaDoorB
namespace Go.Proofs.YtmmohhaolgblkaaDoor
open Go.RowKit

structure It where
  kind : Int
  text : ByteArray
  kids : Int
  pos : Int

def It.cells (x : It) : List Value := [.int .i64 x.kind, .string x.text, .int .i64 x.kids, .int .i64 x.pos]
def flat (l : List It) : List Value := l.flatMap It.cells

structure Rd (B : Nat) (w : World) (s : ByteArray) (p : Nat) (its : List It) (op : List Nat) (vi vo : Value) : Prop where
  blk : w.heap[B]? = some (.cells #[.string s, .int .i64 p, vi, vo] 68 (0, 0))
  rowi : w.ownsRow (B + 1) 31 4 vi its.length (flat its)
  rowo : w.ownsRow (B + 1) 3 1 vo op.length (op.map fun n : Nat => Value.int .i64 n)

/-- all that a call of a reader's method asks of the world and leaves: 'w0': the world when Parse's own blocks began; 'm': what bytealg.MaxLen holds -/
structure Inv (m : Int) (B : Nat) (w0 w : World) (s : ByteArray) (p : Nat) (its : List It) (op : List Nat) : Prop where
  rd : ∃ vi vo, Rd B w s p its op vi vo
  below : Below B w0 w
  has : B < w.heap.size
  big : 0 < B
  len : w.cell? ⟨0, 0, none⟩ = some (.int .i64 m)

theorem Rd.src {B w s p its op vi vo} (h : Rd B w s p its op vi vo) : w.cell? ⟨B, 0, none⟩ = some (.string s) := by
  simp [World.cell?, h.blk]
theorem Rd.at {B w s p its op vi vo} (h : Rd B w s p its op vi vo) : w.cell? ⟨B, 1, none⟩ = some (.int .i64 p) := by
  simp [World.cell?, h.blk]
theorem Rd.fz {B w s p its op vi vo} (h : Rd B w s p its op vi vo) (j : Nat) : w.frozen? ⟨B, j, none⟩ = false := by
  simp [World.frozen?, h.blk]

theorem ownsRow_blk {w : World} {base : Nat} {e : TypeId} {size : Nat} {v : Value} {n : Nat} {xs : List Value} (h : w.ownsRow base e size v n xs) {g : Nat} (hg : v.ownBlock = some g) : ∃ cur, w.heap[g]? = some (.cells cur e (0, 0)) := by
  obtain ⟨_, h | ⟨g', cap, cur, hv, _, hh, _⟩⟩ := h
  · rw [h.1] at hg; cases hg
  · rw [hv] at hg; cases hg; exact ⟨cur, hh⟩
/-- two rows of different element types lie in different blocks -/
theorem ownsRow_apart {w : World} {b b' : Nat} {e e' : TypeId} {z z' : Nat} {v v' : Value} {n n' : Nat} {xs xs' : List Value} (h : w.ownsRow b e z v n xs) (h' : w.ownsRow b' e' z' v' n' xs') (hne : e ≠ e') {g : Nat} (hg : v.ownBlock = some g) : v'.ownBlock ≠ some g := by
  intro hg'
  obtain ⟨c, hc⟩ := ownsRow_blk h hg
  obtain ⟨c', hc'⟩ := ownsRow_blk h' hg'
  rw [hc] at hc'
  cases hc'; exact hne rfl
theorem Inv.drewN {m B w0 w s p its op} (h : Inv m B w0 w s p its op) (n : Nat) : Inv m B w0 (w.drewN n) s p its op :=
  
  let ⟨vi, vo, r⟩ := h.rd
  ⟨⟨vi, vo, ⟨r.blk, r.rowi, r.rowo⟩⟩, below_drewN h.below n, h.has, h.big, h.len⟩
theorem Inv.drew {m B w0 w s p its op} (h : Inv m B w0 w s p its op) : Inv m B w0 w.drew s p its op := h.drewN 1
theorem Inv.setPos {m B w0 w s p its op} (h : Inv m B w0 w s p its op) (p' : Nat) (q : Int) (hq : q = p') : Inv m B w0 (w.setCell ⟨B, 1, none⟩ (.int .i64 q)) s p' its op := by
  subst hq
  obtain ⟨⟨vi, vo, hr⟩, hb, hh, h0, hl⟩ := h
  refine ⟨⟨vi, vo, ?_, ?_, ?_⟩, hb.setCell (Nat.le_refl B) _, ?_, h0, ?_⟩
  · simp [World.setCell, Array.getElem?_modify, hr.blk]
  · exact ownsRow_setCell_below hr.rowi (a := ⟨B, 1, none⟩) (by show B < B + 1; omega) _
  · exact ownsRow_setCell_below hr.rowo (a := ⟨B, 1, none⟩) (by show B < B + 1; omega) _
  · simpa [World.setCell] using hh
  · rw [World.cell?_setCell_other _ _ _ _ (by simp)]; exact hl
theorem Inv.cellAt {m B w0 w s p its op} (h : Inv m B w0 w s p its op) : w.cell? ⟨B, 1, none⟩ = some (.int .i64 p) :=
  let ⟨_, _, r⟩ := h.rd
  r.at

theorem drop_at (s : ByteArray) (k : Nat) (h : k < s.size) : s.data.toList.drop k = s[k] :: s.data.toList.drop (k + 1) := by
  rw [List.drop_eq_getElem_cons (by rw [len_data]; exact h)]; rfl
theorem drop_end (s : ByteArray) (k : Nat) (h : ¬ k < s.size) : s.data.toList.drop k = [] := by
  rw [List.drop_eq_nil_iff, len_data]; omega

theorem skip_step (s : ByteArray) (k : Nat) (c : Bool) (h : k < s.size) : Sx.skipN c (s.data.toList.drop k) =
    if s[k].toNat = 10 then 1 + Sx.skipN false (s.data.toList.drop (k + 1)) else if c then 1 + Sx.skipN true (s.data.toList.drop (k + 1)) else if s[k].toNat = 59 then 1 + Sx.skipN true (s.data.toList.drop (k + 1))
    else if s[k].toNat ≠ 32 ∧ s[k].toNat ≠ 9 ∧ s[k].toNat ≠ 13 then 0 else 1 + Sx.skipN false (s.data.toList.drop (k + 1)) := by
  rw [drop_at s k h]; rfl

set_option maxHeartbeats 1000000 in
theorem skip_any (m : Int) (B : Nat) (w0 w : World) (s : ByteArray) (p : Nat) (its : List It) (op : List Nat) (h : Inv m B w0 w s p its op) (hs : s.size ≤ maxLen) (hp : p ≤ s.size) :
    Calls Tryd.prog 39 #[.pointer (some ⟨B, 0, none⟩)] w fun e w' => e = .returned (.tuple #[]) ∧ Inv m B w0 w' s (p + Sx.skipN false (s.data.toList.drop p)) its op := by
  unfold maxLen at hs
  have hi := Lib.hid h
  go_enter Tryd.func39, Tryd.ntmps39
  go_wp2
  go_loopw [2] (fun cm wr => ∃ (k : Nat) (c : Bool), k ≤ s.size ∧ cm = .bool c ∧ Inv m B w0 wr s k its op ∧ k + Sx.skipN c (s.data.toList.drop k) = p + Sx.skipN false (s.data.toList.drop p))
    (fun _ wr => s.size - (match wr.cell? ⟨B, 1, none⟩ with | some (.int _ k) => k.toNat | _ => 0))
  case atStart => exact ⟨p, false, hp, rfl, h, rfl⟩
  case round =>
    clear h hi
    obtain ⟨k, c, hk, rfl, hinv, hr⟩ := hrel
    have HR := Lib.hid hr
    clear hr
    have hsrc := hinv.rd.choose_spec.choose_spec.src
    have hat := hinv.rd.choose_spec.choose_spec.at
    have hfz := hinv.rd.choose_spec.choose_spec.fz 1
    by_cases hlt : k < s.size
    · go_wp2
      go_quiet (fail)
      go_wp2
      go_quiet (fail)
      go_wp2
      all_goals have e := skip_step s k c hlt
      all_goals have e2 := HR.out
      all_goals first
        | (refine bodyPost_ret (v := .tuple #[]) (by simp [results, Tryd.results39, go_sem]) rfl ⟨rfl, ?_⟩
           rw [show p + Sx.skipN false (s.data.toList.drop p) = k by grind]
           exact hinv.drewN _)
        | (refine ⟨⟨k + 1, _, by omega, rfl, (hinv.drewN _).setPos (k + 1) _ (by omega), ?_⟩, ?_⟩
           · grind
           · rw [World.cell?_setCell_same _ _ _ (hinv.drewN _).cellAt, hat]; show s.size - ((k : Int) + 1).toNat < s.size - (k : Int).toNat; omega)
    · go_wp2
      go_quiet (fail)
      go_wp2
      go_end0
      have e2 := HR.out
      rw [drop_end s k hlt] at e2
      refine ⟨rfl, ?_⟩
      rw [← e2]
      exact hinv.drewN _
end Go.Proofs.YtmmohhaolgblkaaDoor

/- 'Parse' reads a whole text: for every text of at most 65536 bytes. -/
import Derived.Test.YtaffbaacilglgaaGreatDoorKSH
namespace Go.Proofs.YtaffbaacilglgaaGreatDoor.Se
open Go.RowKit

def skipTo (s : ByteArray) (p : Nat) : Nat := p + Sx.skipN false (s.data.toList.drop p)
theorem skipTo_le (s : ByteArray) (p : Nat) (h : p ≤ s.size) : skipTo s p ≤ s.size := by
  unfold skipTo
  have := Sx.skipN_le (s.data.toList.drop p) false
  rw [List.length_drop, len_data] at this
  omega

/-- item after item, until the text ends; 'n' bounds the bytes that are left -/
def parseLoop (s : ByteArray) : Nat → PSt → Except (Nat × Int) PSt
  | 0, st => .ok st
  | n + 1, st => if st.pos < s.size then (match itemF s st with | .ok x => parseLoop s n ⟨skipTo s x.pos, x.its, x.op⟩ | .error e => .error e) else .ok st

/-- what Parse answers: the items, or an offset and an error's number -/
def parseF (s : ByteArray) : List It × Nat × Int :=
  match parseLoop s (s.size + 1) ⟨skipTo s 0, [], []⟩ with
  | .error (a, k) => ([], a, k)
  | .ok st => if st.op = [] then (st.its, 0, 0) else ([], s.size, 2)

/-- every item takes at least a byte -/
theorem addTo_ok {st x : PSt} {kind : Int} {text : ByteArray} {q p : Nat} (h : addTo st kind text q p = .ok x) : x.pos = p ∧ x.its = bumpAt st.its st.op.getLast? ++ [⟨kind, text, 0, q⟩] ∧ x.op = st.op := by
  unfold addTo at h
  split at h
  · cases h
  · cases h; exact ⟨rfl, rfl, rfl⟩
theorem wordN_pos (s : ByteArray) (p : Nat) (h : Sx.wkind (s.extract p (p + wordN s p)).data.toList ≠ 0) : 0 < wordN s p := by
  rcases Nat.eq_zero_or_pos (wordN s p) with h0 | h0
  · exfalso
    apply h
    rw [h0, Nat.add_zero]
    have : (s.extract p p).data.toList = [] := by
      have := len_data (s.extract p p)
      rw [ByteArray.size_extract] at this
      exact List.length_eq_zero_iff.1 (by omega)
    rw [this]; rfl
  · exact h0
theorem item_pos (s : ByteArray) (p : Nat) (its : List It) (op : List Nat) (hp : p < s.size) (x : PSt) (h : itemF s ⟨p, its, op⟩ = .ok x) : p < x.pos ∧ x.pos ≤ s.size := by
  rw [itemF_eq s p its op hp] at h
  split at h
  · split at h
    · cases h
    · cases h; exact ⟨by simp, by simp; omega⟩
  · split at h
    · cases e : addTo ⟨p, its, op⟩ 5 ⟨#[]⟩ p (p + 1) with
      | error z => rw [e] at h; cases h
      | ok y => rw [e] at h; cases h; obtain ⟨hy, _⟩ := addTo_ok e; simp only [hy]; omega
    · split at h
      · cases e : Sx.textN (s.data.toList.drop (p + 1)) with
        | none => rw [e] at h; cases h
        | some t =>
          rw [e] at h
          obtain ⟨hy, _⟩ := addTo_ok h
          have := (Sx.textN_le _ _ (Nat.le_refl _) t e).1
          rw [List.length_drop, len_data] at this
          omega
      · split at h
        · cases h
        · rename_i hk
          obtain ⟨hy, _⟩ := addTo_ok h
          have := wordN_pos s p hk
          have := wordN_le s p
          omega

theorem bump_kids (its : List It) (o : Option Nat) (n : Nat) (h : ∀ x ∈ its, 0 ≤ x.kids ∧ x.kids ≤ n) : ∀ x ∈ bumpAt its o, 0 ≤ x.kids ∧ x.kids ≤ n + 1 := by
  intro x hx
  cases o with
  | none => have := h x hx; omega
  | some i =>
    simp only [bumpAt] at hx
    obtain ⟨j, hj, hjx⟩ := List.mem_iff_getElem.1 hx
    rw [List.getElem_modify] at hjx
    rw [List.length_modify] at hj
    have := h its[j] (List.getElem_mem hj)
    split at hjx
    · subst hjx; simp only [It.bump]; omega
    · subst hjx; omega

theorem good_add {p : Nat} {its : List It} {op : List Nat} (h : Good p its op) (y : It) (hy : y.kids = 0) {p' : Nat} (hp : p < p') : Good p' (bumpAt its op.getLast? ++ [y]) op := by
  have hl := bump_len its op.getLast?
  refine ⟨fun i hi => ?_, fun x hx => ?_, ?_, ?_⟩
  · rw [List.length_append, hl]; have := h.inop i hi; simp; omega
  · rw [List.length_append, hl]
    simp only [List.mem_append, List.mem_singleton] at hx
    rcases hx with hx | rfl
    · have := bump_kids its op.getLast? its.length (fun z hz => h.kids z hz) x hx
      simp; omega
    · rw [hy]; simp; omega
  · rw [List.length_append, hl]; have := h.few; simp; omega
  · rw [List.length_append, hl]; have := h.opn; simp; omega

theorem good_item (s : ByteArray) (p : Nat) (its : List It) (op : List Nat) (hp : p < s.size) (hg : Good p its op) (x : PSt) (h : itemF s ⟨p, its, op⟩ = .ok x) : Good x.pos x.its x.op := by
  have hpos := item_pos s p its op hp x h
  rw [itemF_eq s p its op hp] at h
  split at h
  · split at h
    · cases h
    · cases h
      refine ⟨fun i hi => hg.inop i ((List.dropLast_sublist op).subset hi), hg.kids, Nat.le_trans hg.few (by simp), ?_⟩
      have := hg.opn
      simp only [List.length_dropLast]; omega
  · split at h
    · cases e : addTo ⟨p, its, op⟩ 5 ⟨#[]⟩ p (p + 1) with
      | error z => rw [e] at h; cases h
      | ok y =>
        rw [e] at h; cases h
        obtain ⟨h1, h2, h3⟩ := addTo_ok e
        have hg2 := good_add hg ⟨5, ⟨#[]⟩, 0, p⟩ rfl (p' := y.pos) (by omega)
        rw [← h2] at hg2
        have hlen : y.its.length = its.length + 1 := by rw [h2, List.length_append, bump_len]; rfl
        refine ⟨fun i hi => ?_, hg2.kids, hg2.few, ?_⟩
        · simp only [List.mem_append, List.mem_singleton, h3] at hi
          rcases hi with hi | rfl
          · exact hg2.inop i hi
          · simp only [hlen]; omega
        · simp only [List.length_append, List.length_singleton, h3, hlen]; have := hg.opn; omega
    · split at h
      · cases e : Sx.textN (s.data.toList.drop (p + 1)) with
        | none => rw [e] at h; cases h
        | some t =>
          rw [e] at h
          obtain ⟨h1, h2, h3⟩ := addTo_ok h
          rw [h2, h3]
          exact good_add hg _ rfl hpos.1
      · split at h
        · cases h
        · obtain ⟨h1, h2, h3⟩ := addTo_ok h
          rw [h2, h3]
          exact good_add hg _ rfl hpos.1
theorem good_skip {s : ByteArray} {p : Nat} {its : List It} {op : List Nat} (h : Good p its op) : Good (skipTo s p) its op := ⟨h.inop, h.kids, Nat.le_trans h.few (by unfold skipTo; omega), h.opn⟩

def parseT (s : ByteArray) : List It × Nat × Int := if 65536 < s.size then ([], 0, 6) else parseF s

theorem ownsRow_mono {w : World} {b b' : Nat} {e : TypeId} {z : Nat} {v : Value} {n : Nat} {xs : List Value} (h : w.ownsRow b e z v n xs) (hb : b' ≤ b) : w.ownsRow b' e z v n xs := by
  obtain ⟨hl, h0 | ⟨g, cap, cur, hv, hg, r⟩⟩ := h
  · exact ⟨hl, .inl h0⟩
  · exact ⟨hl, .inr ⟨g, cap, cur, hv, by omega, r⟩⟩

/-- what Parse leaves: a slice of its own that holds the items -/
def ParsePost (w : World) (r : List It × Nat × Int) (e : Ending) (w' : World) : Prop :=
  ∃ v, e = .returned (.tuple #[v, .int .i64 r.2.1, .int .i64 r.2.2]) ∧ w'.ownsRow w.heap.size 49 4 v r.1.length (flat r.1) ∧ Below w.heap.size w w'
theorem ParsePost.nil_of {w : World} {r : List It × Nat × Int} {w' : World} {a : Nat} {k : Int} (h : r = ([], a, k)) (hb : Below w.heap.size w w') : ParsePost w r (.returned (.tuple #[.slice none 0 0, .int .i64 a, .int .i64 k])) w' := by
  subst h; exact ⟨_, rfl, World.ownsRow_nil _ _ _ _, hb⟩
theorem ParsePost.of {w : World} {r : List It × Nat × Int} {w' : World} {its : List It} {v : Value} (h : r = (its, 0, 0)) (hr : w'.ownsRow w.heap.size 49 4 v its.length (flat its)) (hb : Below w.heap.size w w') : ParsePost w r (.returned (.tuple #[v, .int .i64 0, .int .i64 0])) w' := by
  subst h; exact ⟨_, rfl, hr, hb⟩

theorem inv_new (m : Int) (w : World) (s : ByteArray) (hB : 0 < w.heap.size) (hM : w.cell? ⟨0, 0, none⟩ = some (.int .i64 m)) : Inv m w.heap.size w (w.alloc (.cells #[.string s, .int .i64 0, .slice none 0 0, .slice none 0 0] 64)) s 0 [] [] :=
  ⟨⟨.slice none 0 0, .slice none 0 0, ⟨by show (w.heap.push _)[w.heap.size]? = _; simp, World.ownsRow_nil _ _ _ _, World.ownsRow_nil _ _ _ _⟩⟩, (Below.refl _ _).alloc (Nat.le_refl _) _, by simp, hB, (World.cell?_alloc_past _ _ _ (by exact hB)).trans hM⟩
theorem good_nil (p : Nat) : Good p [] [] := ⟨by simp, by simp, by simp, by simp⟩

theorem addTo_err {st : PSt} {kind : Int} {text : ByteArray} {q p a : Nat} {k : Int} (h : addTo st kind text q p = .error (a, k)) : k = 6 := by
  unfold addTo at h
  split at h
  · cases h; rfl
  · cases h
theorem item_err (s : ByteArray) (p : Nat) (its : List It) (op : List Nat) (hp : p < s.size) (a : Nat) (k : Int) (h : itemF s ⟨p, its, op⟩ = .error (a, k)) : k ≠ 0 := by
  rw [itemF_eq s p its op hp] at h
  split at h
  · split at h
    · cases h; decide
    · cases h
  · split at h
    · cases e : addTo ⟨p, its, op⟩ 5 ⟨#[]⟩ p (p + 1) with
      | error z => rw [e] at h; cases h; rw [addTo_err e]; decide
      | ok y => rw [e] at h; cases h
    · split at h
      · cases e : Sx.textN (s.data.toList.drop (p + 1)) with
        | none => rw [e] at h; cases h; decide
        | some t => rw [e] at h; rw [addTo_err h]; decide
      · split at h
        · cases h; decide
        · rw [addTo_err h]; decide

set_option maxHeartbeats 2000000 in
set_option maxRecDepth 100000 in
theorem parse_any (m : Int) (s : ByteArray) (w : World) (hB : 0 < w.heap.size) (hM : w.cell? ⟨0, 0, none⟩ = some (.int .i64 m)) :
    Calls Tryz.prog 17 #[.string s] w (ParsePost w (parseT s)) := by
  by_cases hbig : 65536 < s.size
  · have HT := Lib.hid (show parseT s = ([], 0, 6) by unfold parseT; rw [if_pos hbig])
    go_enter Tryz.func17, Tryz.ntmps17
    go_wp2
    go_ret3
    exact ParsePost.nil_of HT.out (Below.refl _ _)
  · have HT := Lib.hid (show parseT s = parseF s by unfold parseT; rw [if_neg hbig])
    have HN := Lib.hid (inv_new m w s hB hM)
    have hs2 : s.size ≤ 65536 := by omega
    clear hM
    go_enter Tryz.func17, Tryz.ntmps17
    go_wp2_with (go_at_call 24; refine (skip_any m _ w _ s 0 [] [] HN.out (by unfold maxLen; omega) (by omega)).mono ?_; rintro e w1 ⟨rfl, hi1⟩; have HI1 := Lib.hid hi1; clear hi1)
    generalize hb : w.heap.size = B at *
    have HB := Lib.hid hb
    clear hb
    go_loopw [6, 7] (fun _ _ wr => ∃ (n k : Nat) (its : List It) (op : List Nat), k ≤ s.size ∧ s.size - k < n ∧ Inv m B w wr s k its op ∧ Good k its op ∧ parseLoop s n ⟨k, its, op⟩ = parseLoop s (s.size + 1) ⟨skipTo s 0, [], []⟩)
      (fun _ _ wr => s.size - (match wr.cell? ⟨B, 1, none⟩ with | some (.int _ k) => k.toNat | _ => 0))
    case atStart => exact ⟨s.size + 1, skipTo s 0, [], [], skipTo_le s 0 (by omega), by omega, HI1.out, good_nil _, rfl⟩
    case round =>
      obtain ⟨n, k, its, op, hk, hn, hI, hG, hP⟩ := hrel
      have hat := hI.cellAt
      obtain ⟨vi, vo, hr⟩ := hI.rd
      have h3 := hr.ops
      have h2 := hr.its
      have HI := Lib.hid hI
      have HG := Lib.hid hG
      have HP := Lib.hid hP
      have HR := Lib.hid hr
      clear hI hG hP hr
      obtain ⟨n, rfl⟩ : ∃ n', n = n' + 1 := ⟨n - 1, by omega⟩
      by_cases hlt : k < s.size
      · have hit := item_any m B w wr s k its op HI.out hs2 hlt HG.out
        cases e : itemF s ⟨k, its, op⟩ with
        | ok x =>
          have hpos := item_pos s k its op hlt x e
          have hG2 := Lib.hid (good_skip (s := s) (good_item s k its op hlt HG.out x e))
          have HP2 : Hid (parseLoop s n ⟨skipTo s x.pos, x.its, x.op⟩ = parseLoop s (s.size + 1) ⟨skipTo s 0, [], []⟩) := Lib.hid (by rw [← HP.out]; simp only [parseLoop]; rw [if_pos hlt, e])
          have hsk := skipTo_le s x.pos hpos.2
          have hsk2 : x.pos ≤ skipTo s x.pos := by unfold skipTo; omega
          unfold ItemPost at hit
          rw [e] at hit
          clear e HP HG HR
          go_wp2_with (first
            | (go_at_call 25; refine hit.mono ?_; rintro e w2 ⟨rfl, hi2⟩; have HI2 := Lib.hid hi2; clear hi2)
            | (go_at_call 24; refine (skip_any m B w _ s x.pos x.its x.op HI2.out (by unfold maxLen; omega) hpos.2).mono ?_; rintro e w3 ⟨rfl, hi3⟩; have HI3 : Hid (Inv m B w w3 s (skipTo s x.pos) x.its x.op) := Lib.hid hi3; clear hi3))
          go_roundw
          case rel => exact ⟨n, skipTo s x.pos, x.its, x.op, hsk, by omega, HI3.out, hG2.out, HP2.out⟩
          case measure =>
            rw [HI3.out.cellAt, hat]
            show s.size - (skipTo s x.pos : Int).toNat < s.size - (k : Int).toNat
            omega
        | error y =>
          obtain ⟨a, kk⟩ := y
          have hkk : (kk != 0) = true := by simpa using item_err s k its op hlt a kk e
          have HF : Hid (parseT s = ([], a, kk)) := Lib.hid (by
            rw [HT.out]; unfold parseF; rw [← HP.out]; simp only [parseLoop]; rw [if_pos hlt, e])
          unfold ItemPost at hit
          rw [e] at hit
          clear e HP HG HR
          go_wp2_with (go_at_call 25; refine hit.mono ?_; rintro e w2 ⟨rfl, hb2⟩)
          go_ret3
          exact ParsePost.nil_of HF.out (by rw [HB.out]; exact hb2)
      · obtain ⟨ao, co, hvo⟩ := ownsRow_len HR.out.rowo
        rw [hvo] at h3
        have hPL : Hid (parseLoop s (s.size + 1) ⟨skipTo s 0, [], []⟩ = .ok ⟨k, its, op⟩) := Lib.hid (by rw [← HP.out]; simp only [parseLoop]; rw [if_neg hlt])
        by_cases hop : op = []
        · have HF : Hid (parseT s = (its, 0, 0)) := Lib.hid (by rw [HT.out]; unfold parseF; rw [hPL.out]; simp [hop])
          have hol : ¬ 0 < op.length := by rw [hop]; simp
          clear hop hvo
          go_wp2_with fail
          go_ret3
          exact ParsePost.of HF.out (by rw [HB.out]; exact ownsRow_mono HR.out.rowi (by omega)) (by rw [HB.out]; exact HI.out.below)
        · have HF : Hid (parseT s = ([], s.size, 2)) := Lib.hid (by rw [HT.out]; unfold parseF; rw [hPL.out]; simp [hop])
          have hol : 0 < op.length := List.length_pos_iff.2 hop
          clear hop hvo
          go_wp2_with fail
          go_ret3
          exact ParsePost.nil_of HF.out (by rw [HB.out]; exact HI.out.below)
end Go.Proofs.YtaffbaacilglgaaGreatDoor.Se

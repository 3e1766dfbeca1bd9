/- Quotients by one word in place; chunks of nine digits that come off a big integer: no program. -/
import Derived.Test.YtgehimcngljmnaaGreatDoorF
namespace Nmx

/-- a quotient by one word in place, from the top: the words from i on are done, r is left -/
structure DivI (a q : List Nat) (b i r : Nat) : Prop where
  len : q.length = a.length
  ws : Ws q
  low : ∀ k, k < i → q.getD k 0 = a.getD k 0
  r1 : r < b
  val : wv (q.drop i) * b + r = wv (a.drop i)
theorem DivI.start (a : List Nat) (b : Nat) (ha : Ws a) (hb : 0 < b) : DivI a a b a.length 0 :=
  ⟨rfl, ha, fun _ _ => rfl, hb, by simp [wv_nil]⟩
theorem DivI.step {a q : List Nat} {b i r : Nat} (h : DivI a q b (i + 1) r) (ha : Ws a) (hi : i < a.length) (t : Nat) (ht : t = r * BB + a.getD i 0) : DivI a (q.set i (t / b)) b i (t % b) ∧ t / b < BB := by
  have h1 := ha.getD i
  have h2 := h.r1
  have hb0 : 0 < b := by omega
  have h3 : t < b * BB := by
    have : (r + 1) * BB ≤ b * BB := Nat.mul_le_mul_right _ h2
    rw [Nat.add_mul, Nat.one_mul] at this
    omega
  have h4 : t / b < BB := (Nat.div_lt_iff_lt_mul hb0).2 (by rw [Nat.mul_comm]; exact h3)
  refine ⟨⟨by rw [List.length_set]; exact h.len, h.ws.set _ h4, fun k hk => by rw [getD_set_far _ _ _ _ (by omega)]; exact h.low k (by omega), Nat.mod_lt _ hb0, ?_⟩, h4⟩
  have hq : i < q.length := by rw [h.len]; exact hi
  rw [wv_drop_getD _ i (by rw [List.length_set]; exact hq), getD_set_same q i _ hq, List.drop_set_of_lt (by omega), wv_drop_getD a i hi]
  have h5 := Nat.mod_add_div t b
  have h6 := h.val
  have h7 : BB * (wv (q.drop (i + 1)) * b + r) = BB * wv (a.drop (i + 1)) := by rw [h6]
  rw [Nat.mul_add] at h7
  rw [Nat.add_mul, Nat.mul_assoc, Nat.mul_comm (t / b) b, ← h7]
  have : r * BB = BB * r := Nat.mul_comm _ _
  omega
theorem DivI.done {a q : List Nat} {b r : Nat} (h : DivI a q b 0 r) : wv q = wv a / b ∧ r = wv a % b := by
  have h1 := h.val
  rw [List.drop_zero, List.drop_zero] at h1
  have h2 := h.r1
  rw [← h1]
  have h0 : 0 < b := by omega
  refine ⟨?_, ?_⟩
  · rw [Nat.mul_comm, Nat.mul_add_div h0, Nat.div_eq_of_lt h2, Nat.add_zero]
  · rw [Nat.mul_comm, Nat.mul_add_mod, Nat.mod_eq_of_lt h2]

/-- the chunks c have come off N, the words l are left -/
structure ChR (N : Nat) (l c : List Nat) : Prop where
  nl : Norm l
  lt : ∀ x ∈ c, x < 1000000000
  val : chunksV c + 1000000000 ^ c.length * wv l = N
  last : l = [] → c ≠ [] ∧ c.getLastD 0 ≠ 0
theorem ChR.start {l : List Nat} (h : Norm l) (h0 : l ≠ []) : ChR (wv l) l [] :=
  ⟨h, fun x hx => absurd hx (by simp), by simp [chunksV], fun e => absurd e h0⟩
theorem wv_pos_of {l : List Nat} (h : Norm l) (h0 : l ≠ []) : 0 < wv l := by
  rcases Nat.eq_zero_or_pos (wv l) with h1 | h1
  · exact absurd (norm_zero l h h1) h0
  · exact h1
theorem ChR.step {N : Nat} {l c q : List Nat} {r : Nat} (h : ChR N l c) (h0 : l ≠ []) (hq : wv q = wv l / 1000000000) (hr : r = wv l % 1000000000) (hw : Ws q) : ChR N (trimW q) (c ++ [r]) := by
  have hp := wv_pos_of h.nl h0
  have hd := Nat.mod_add_div (wv l) 1000000000
  constructor
  · exact trimW_norm q hw
  · intro x hx
    rw [List.mem_append, List.mem_singleton] at hx
    rcases hx with hx | hx
    · exact h.lt x hx
    · rw [hx, hr]; exact Nat.mod_lt _ (by omega)
  · rw [chunksV_snoc, trimW_wv, hq, List.length_append, List.length_singleton, Nat.pow_succ, Nat.mul_assoc, hr, Nat.add_assoc, ← Nat.mul_add, hd]
    exact h.val
  · intro e
    have : wv q = 0 := by rw [← trimW_wv, e]; rfl
    refine ⟨by simp, ?_⟩
    simp
    omega
theorem ChR.few {N : Nat} {l c : List Nat} (h : ChR N l c) (h0 : l ≠ []) {L : Nat} (hN : N < BB ^ L) : c.length < 32 * L := by
  have hp := wv_pos_of h.nl h0
  have h1 := h.val
  have h2 : 1000000000 ^ c.length * 1 ≤ 1000000000 ^ c.length * wv l := Nat.mul_le_mul_left _ hp
  have h3 : 2 ^ c.length ≤ 1000000000 ^ c.length := Nat.pow_le_pow_left (by omega) _
  have h4 : BB ^ L = 2 ^ (32 * L) := by rw [BB_eq, Nat.pow_mul]
  rw [h4] at hN
  exact (Nat.pow_lt_pow_iff_right (by omega : 1 < 2)).1 (by omega)
theorem ChR.done {N : Nat} {c : List Nat} (h : ChR N [] c) : chunksT c = decN N ∧ c ≠ [] := by
  obtain ⟨h1, h2⟩ := h.last rfl
  have h3 := h.val
  rw [wv_nil, Nat.mul_zero, Nat.add_zero] at h3
  rw [← h3]
  exact ⟨(chunksT_eq c h1 h.lt h2).1, h1⟩
/-- what has been written when i chunks are still to come -/
theorem chunksT_drop {c : List Nat} {i : Nat} (hi : i < c.length) : chunksT (c.drop i) = chunksT (c.drop (i + 1)) ++ (if i + 1 < c.length then List.replicate (9 - (decN (c.getD i 0)).length) 48 else []) ++ decN (c.getD i 0) := by
  rw [List.drop_eq_getElem_cons hi, getD_at c i hi]
  by_cases h : i + 1 < c.length
  · rw [if_pos h, chunksT_snoc _ _ (by intro e; have := congrArg List.length e; rw [List.length_drop] at this; simp at this; omega), pad9, List.append_assoc]
  · rw [if_neg h, List.drop_of_length_le (by omega)]
    simp [chunksT]
theorem chunksT_len (c : List Nat) (h : ∀ x ∈ c, x < 1000000000) : (chunksT c).length ≤ 9 * c.length := by
  induction c with
  | nil => simp [chunksT]
  | cons x r ih =>
    have hx := h x (by simp)
    by_cases hr : r = []
    · subst hr
      simp only [chunksT, List.reverse_cons, List.reverse_nil, List.nil_append, List.map_nil, List.flatten_nil, List.append_nil]
      have := decN_len_le (n := x) (k := 9) (by omega) (by omega)
      simpa using this
    · rw [chunksT_snoc x r hr, List.length_append, pad9_len x hx, List.length_cons]
      have := ih (fun y hy => h y (by simp [hy]))
      omega
end Nmx

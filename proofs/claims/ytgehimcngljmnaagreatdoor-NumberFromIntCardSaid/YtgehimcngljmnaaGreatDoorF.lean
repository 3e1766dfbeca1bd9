/- Plain words about shifts of rows of words, and about rows of words and decimal digits: no program. -/
import Derived.Test.YtgehimcngljmnaaGreatDoorE
import Derived.Test.YtgehimcngljmnaaGreatDoorC
namespace Nmx

/-- a shift to the left by which a word is multiplied by S: i words are done, c is carried -/
structure ShlR (a w : List Nat) (S i c : Nat) : Prop where
  len : w.length = a.length + 1
  ws : Ws w
  zero : ∀ k, i ≤ k → w.getD k 0 = 0
  c1 : c < S
  val : wv w + BB ^ i * c = wv (a.take i) * S
theorem ShlR.start (a : List Nat) (S : Nat) (hS : 0 < S) : ShlR a (List.replicate (a.length + 1) 0) S 0 0 :=
  ⟨by simp, Ws.zeros _, fun k _ => by rw [List.getD_eq_getElem?_getD, List.getElem?_replicate]; split <;> rfl, hS, by rw [wv_zeros]; simp [wv_nil]⟩
theorem shl_word {x S T c : Nat} (hx : x < BB) (hST : S * T = BB) (hc : c < S) : x * S % BB + c < BB ∧ x * S / BB < S ∧ x * S % BB = x % T * S ∧ x * S < BB * BB := by
  have hS : 0 < S := by omega
  have hT : 0 < T := by
    rcases Nat.eq_zero_or_pos T with h | h
    · subst h; have := BB_pos; omega
    · exact h
  have e1 : x * S % BB = x % T * S := by rw [← hST, Nat.mul_comm S T, Nat.mul_mod_mul_right]
  have e2 : (x % T + 1) * S ≤ T * S := Nat.mul_le_mul_right _ (Nat.mod_lt _ hT)
  rw [Nat.add_mul, Nat.one_mul, Nat.mul_comm T S, hST] at e2
  have e3 : x * S < S * BB := by rw [Nat.mul_comm]; exact Nat.mul_lt_mul_of_pos_left hx hS
  have e4 : S * BB ≤ BB * BB := Nat.mul_le_mul_right _ (by rw [← hST]; exact Nat.le_mul_of_pos_right _ hT)
  exact ⟨by rw [e1]; omega, (Nat.div_lt_iff_lt_mul BB_pos).2 e3, e1, by omega⟩
theorem ShlR.step {a w : List Nat} {S T i c : Nat} (h : ShlR a w S i c) (hST : S * T = BB) (ha : Ws a) (hi : i < a.length) : ShlR a (w.set i (a.getD i 0 * S % BB + c)) S (i + 1) (a.getD i 0 * S / BB) := by
  obtain ⟨h1, h2, _, _⟩ := shl_word (ha.getD i) hST h.c1
  refine ⟨by rw [List.length_set]; exact h.len, h.ws.set i h1, fun k hk => by rw [getD_set_far _ _ _ _ (by omega)]; exact h.zero k (by omega), h2, ?_⟩
  rw [wv_set0 w i _ (by rw [h.len]; omega) (h.zero i (Nat.le_refl _)), wv_take_getD, Nat.pow_succ, Nat.mul_assoc]
  have h3 := h.val
  have h4 := mod_div (a.getD i 0 * S)
  have e1 : BB ^ i * (a.getD i 0 * S % BB + BB * (a.getD i 0 * S / BB)) = BB ^ i * (a.getD i 0 * S) := by rw [h4]
  rw [Nat.add_mul, Nat.mul_assoc (BB ^ i) (a.getD i 0)]
  simp only [Nat.mul_add] at *
  omega
theorem ShlR.done {a w : List Nat} {S T c : Nat} (h : ShlR a w S a.length c) (hST : S * T = BB) : wv (w.set a.length c) = wv a * S ∧ Ws (w.set a.length c) ∧ (w.set a.length c).length = a.length + 1 := by
  have h1 := h.val
  rw [wv_take_all a _ (Nat.le_refl _)] at h1
  have hc := h.c1
  have hT : 0 < T := by
    rcases Nat.eq_zero_or_pos T with h | h
    · subst h; have := BB_pos; omega
    · exact h
  have : S ≤ BB := by rw [← hST]; exact Nat.le_mul_of_pos_right _ hT
  exact ⟨by rw [wv_set0 w _ _ (by rw [h.len]; omega) (h.zero _ (Nat.le_refl _)), h1], h.ws.set _ (by omega), by rw [List.length_set, h.len]⟩

/-- a shift to the right: i words are done -/
structure ShrR (a w : List Nat) (S i : Nat) : Prop where
  len : w.length = a.length
  ws : Ws w
  zero : ∀ k, i ≤ k → w.getD k 0 = 0
  val : wv w * S + a.getD 0 0 % S = wv (a.take i) + BB ^ i * (a.getD i 0 % S)
theorem ShrR.start (a : List Nat) (S : Nat) : ShrR a (List.replicate a.length 0) S 0 :=
  ⟨by simp, Ws.zeros _, fun k _ => by rw [List.getD_eq_getElem?_getD, List.getElem?_replicate]; split <;> rfl, by rw [wv_zeros]; simp [wv_nil]⟩
theorem shr_word {x y S T : Nat} (hx : x < BB) (hST : S * T = BB) (hS : 0 < S) : (x + BB * y) / S % BB < BB ∧ (x + BB * y) / S % BB = x / S + T * (y % S) := by
  refine ⟨Nat.mod_lt _ BB_pos, ?_⟩
  have e1 : (x + BB * y) / S = x / S + T * y := by rw [← hST, Nat.mul_assoc, Nat.add_mul_div_left _ _ hS]
  have hT : 0 < T := by
    rcases Nat.eq_zero_or_pos T with h | h
    · subst h; have := BB_pos; omega
    · exact h
  have e2 : x / S < T := (Nat.div_lt_iff_lt_mul hS).2 (by rw [Nat.mul_comm, hST]; exact hx)
  have e3 : T * (y % S) + T ≤ BB := by
    rw [← hST, Nat.mul_comm S T, ← Nat.mul_succ]; exact Nat.mul_le_mul_left _ (Nat.mod_lt _ hS)
  have e4 : T * y = T * (y % S) + BB * (y / S) := by
    rw [← hST, Nat.mul_comm S T, Nat.mul_assoc, ← Nat.mul_add, Nat.mod_add_div]
  rw [e1, e4, ← Nat.add_assoc, Nat.add_mul_mod_self_left, Nat.mod_eq_of_lt (by omega)]
theorem ShrR.step {a w : List Nat} {S T i : Nat} (h : ShrR a w S i) (hST : S * T = BB) (hS : 0 < S) (ha : Ws a) (hi : i < a.length) (t : Nat) (ht : t = a.getD i 0 + BB * a.getD (i + 1) 0) : ShrR a (w.set i (t / S % BB)) S (i + 1) := by
  obtain ⟨h1, h2⟩ := shr_word (y := a.getD (i + 1) 0) (ha.getD i) hST hS
  rw [← ht] at h1 h2
  refine ⟨by rw [List.length_set]; exact h.len, h.ws.set i h1, fun k hk => by rw [getD_set_far _ _ _ _ (by omega)]; exact h.zero k (by omega), ?_⟩
  rw [wv_set0 w i _ (by rw [h.len]; omega) (h.zero i (Nat.le_refl _)), wv_take_getD, h2, Nat.pow_succ, Nat.mul_assoc]
  have h3 := h.val
  have h4 := Nat.mod_add_div (a.getD i 0) S
  have e1 : BB ^ i * (a.getD i 0 % S + S * (a.getD i 0 / S)) = BB ^ i * a.getD i 0 := by rw [h4]
  have e2 : BB ^ i * (a.getD i 0 / S + T * (a.getD (i + 1) 0 % S)) * S = BB ^ i * (S * (a.getD i 0 / S)) + BB ^ i * (BB * (a.getD (i + 1) 0 % S)) := by rw [← hST]; grind
  rw [Nat.add_mul, e2]
  rw [Nat.mul_add] at e1
  omega
theorem ShrR.done {a w : List Nat} {S : Nat} (h : ShrR a w S a.length) (r : Nat) (hr : wv a = r * S) (hS : 0 < S) : wv w = r := by
  have h1 := h.val
  rw [wv_take_all a _ (Nat.le_refl _), List.getD_eq_getElem?_getD (i := a.length), List.getElem?_eq_none (Nat.le_refl _)] at h1
  simp only [Option.getD_none, Nat.zero_mod, Nat.mul_zero, Nat.add_zero] at h1
  rw [hr] at h1
  have h2 := congrArg (· % S) h1
  simp only [Nat.mul_add_mod_self_right, Nat.mul_mod_left, Nat.mod_mod] at h2
  rw [h2, Nat.add_zero] at h1
  exact Nat.eq_of_mul_eq_mul_right hS h1

/-- times m, and v more: i words are done, c is carried -/
structure MacR (w w' : List Nat) (m v i c : Nat) : Prop where
  len : w'.length = w.length
  ws : Ws w'
  rest : ∀ j, i ≤ j → w'.getD j 0 = w.getD j 0
  c1 : c < BB
  val : wv (w'.take i) + BB ^ i * c = wv (w.take i) * m + v
theorem MacR.start (w : List Nat) (m v : Nat) (hw : Ws w) (hv : v < BB) : MacR w w m v 0 v := ⟨rfl, hw, fun _ _ => rfl, hv, by simp [wv_nil]⟩
theorem MacR.step {w w' : List Nat} {m v i c : Nat} (h : MacR w w' m v i c) (hw : Ws w) (hm : m < BB) (hi : i < w.length) (t : Nat) (ht : t = w.getD i 0 * m + c) : MacR w (w'.set i (t % BB)) m v (i + 1) (t / BB) ∧ t < BB * BB := by
  have h2 := mul_word (w.getD i 0) m 0 c (hw.getD i) hm BB_pos h.c1
  rw [Nat.add_zero, ← ht] at h2
  refine ⟨⟨by rw [List.length_set]; exact h.len, h.ws.set _ (Nat.mod_lt _ BB_pos), fun j hj => by rw [getD_set_far _ _ _ _ (by omega)]; exact h.rest j (by omega), (Nat.div_lt_iff_lt_mul BB_pos).2 h2, ?_⟩, h2⟩
  rw [take_set_at _ _ _ (by rw [h.len]; omega), wv_take_getD w, Nat.pow_succ, Nat.mul_assoc]
  have h3 := h.val
  have h4 := mod_div t
  have e1 : BB ^ i * (t % BB + BB * (t / BB)) = BB ^ i * (w.getD i 0 * m + c) := by rw [h4, ht]
  have e2 : BB ^ i * w.getD i 0 * m = BB ^ i * (w.getD i 0 * m) := Nat.mul_assoc _ _ _
  rw [Nat.add_mul, e2]
  simp only [Nat.mul_add] at *
  omega
theorem MacR.done {w w' : List Nat} {m v c : Nat} (h : MacR w w' m v w.length c) : wv (w' ++ [c]) = wv w * m + v ∧ (c = 0 → wv w' = wv w * m + v) ∧ Ws (w' ++ [c]) := by
  have h1 := h.val
  rw [wv_take_all w _ (Nat.le_refl _), wv_take_all w' _ (by rw [h.len]; exact Nat.le_refl _)] at h1
  refine ⟨by rw [wv_snoc, h.len]; exact h1, fun hc => by subst hc; omega, h.ws.append fun x hx => by rw [List.mem_singleton] at hx; rw [hx]; exact h.c1⟩

/-- nine digits -/
def pad9 (n : Nat) : List UInt8 := List.replicate (9 - (decN n).length) 48 ++ decN n
theorem rep_dv (k : Nat) : dv (List.replicate k 48) = 0 := by
  induction k with
  | zero => rfl
  | succ k ih => rw [List.replicate_succ, dv_cons, ih]; simp
theorem pad9_all (n : Nat) : (pad9 n).all isD = true := by
  unfold pad9
  rw [List.all_append, decN_digits, Bool.and_true, List.all_eq_true]
  intro x hx
  rw [(List.mem_replicate.1 hx).2]; decide
theorem pad9_dv (n : Nat) : dv (pad9 n) = n := by unfold pad9; rw [dv_append, rep_dv, dv_decN]; simp
theorem pad9_len (n : Nat) (h : n < 1000000000) : (pad9 n).length = 9 := by
  have := decN_len_le (n := n) (k := 9) (by omega) (by simpa using h)
  unfold pad9
  rw [List.length_append, List.length_replicate]; omega
theorem decN_chunk (hi lo : Nat) (h : 0 < hi) (hl : lo < 1000000000) : decN (hi * 1000000000 + lo) = decN hi ++ pad9 lo := by
  have e : dv (decN hi ++ pad9 lo) = hi * 1000000000 + lo := by rw [dv_append, dv_decN, pad9_dv, pad9_len lo hl]
  rw [← e]
  refine canon_eq ⟨by rw [List.all_append, decN_digits, pad9_all]; rfl, by simp [decN_ne], .inr ?_⟩
  have h1 := decN_head hi (by omega)
  match hd : decN hi, decN_ne hi with
  | c :: r, _ => rw [hd] at h1; exact h1
/-- chunks of nine digits, the least significant one first -/
def chunksV : List Nat → Nat
  | [] => 0
  | x :: l => x + 1000000000 * chunksV l
theorem chunksV_snoc (l : List Nat) (x : Nat) : chunksV (l ++ [x]) = chunksV l + 1000000000 ^ l.length * x := by
  induction l with
  | nil => simp [chunksV]
  | cons y r ih => simp only [List.cons_append, chunksV, ih, List.length_cons, Nat.pow_succ]; grind
/-- what 'String' writes of the chunks from i on, the top one first -/
def chunksT (l : List Nat) : List UInt8 := match l.reverse with
  | [] => []
  | x :: r => decN x ++ (r.map pad9).flatten
theorem chunksT_snoc (x : Nat) (l : List Nat) (hl : l ≠ []) : chunksT (x :: l) = chunksT l ++ pad9 x := by
  unfold chunksT
  rw [List.reverse_cons]
  match hr : l.reverse, (by simpa using hl : l.reverse ≠ []) with
  | y :: r, _ => simp
theorem chunksT_eq (l : List Nat) (hl : l ≠ []) (h : ∀ x ∈ l, x < 1000000000) (h0 : l.getLastD 0 ≠ 0) : chunksT l = decN (chunksV l) ∧ 0 < chunksV l := by
  induction l with
  | nil => exact absurd rfl hl
  | cons x r ih =>
    by_cases hr : r = []
    · subst hr
      simp only [chunksT, chunksV, List.reverse_cons, List.reverse_nil, List.nil_append, List.map_nil, List.flatten_nil, List.append_nil, Nat.mul_zero, Nat.add_zero]
      simp at h0
      exact ⟨trivial, by omega⟩
    · obtain ⟨h1, h2⟩ := ih hr (fun y hy => h y (by simp [hy])) (by match r, hr with | y :: s, _ => simpa using h0)
      rw [chunksT_snoc x r hr, h1]
      refine ⟨?_, by simp only [chunksV]; omega⟩
      have := decN_chunk (chunksV r) x h2 (h x (by simp))
      simp only [chunksV]
      rw [← this]; congr 1; omega
end Nmx

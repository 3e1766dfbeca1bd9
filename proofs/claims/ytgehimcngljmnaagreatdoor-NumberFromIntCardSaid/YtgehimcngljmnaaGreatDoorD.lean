/- Plain words about sums, differences and products of rows of words: no program. -/
import Derived.Test.YtgehimcngljmnaaGreatDoorB
namespace Nmx

theorem wv_set0 (l : List Nat) (i x : Nat) (hi : i < l.length) (h0 : l.getD i 0 = 0) : wv (l.set i x) = wv l + BB ^ i * x := by
  have := wv_set l i x hi
  have e : l[i] = 0 := by rw [List.getD_eq_getElem?_getD, List.getElem?_eq_getElem hi] at h0; simpa using h0
  rw [e, Nat.mul_zero, Nat.add_zero] at this
  exact this
theorem wv_take_getD (l : List Nat) (i : Nat) : wv (l.take (i + 1)) = wv (l.take i) + BB ^ i * l.getD i 0 := by
  by_cases hi : i < l.length
  · rw [wv_take_succ l i hi, List.getD_eq_getElem?_getD, List.getElem?_eq_getElem hi]; rfl
  · rw [List.take_of_length_le (by omega), List.take_of_length_le (by omega), List.getD_eq_getElem?_getD, List.getElem?_eq_none (by omega)]; simp
theorem Ws.getD {l : List Nat} (h : Ws l) (i : Nat) : l.getD i 0 < BB := by
  by_cases hi : i < l.length
  · rw [List.getD_eq_getElem?_getD, List.getElem?_eq_getElem hi]; exact h.get i hi
  · rw [List.getD_eq_getElem?_getD, List.getElem?_eq_none (by omega)]; exact BB_pos
theorem getD_set_same (l : List Nat) (i x : Nat) (hi : i < l.length) : (l.set i x).getD i 0 = x := by simp [List.getD_eq_getElem?_getD, hi]
theorem getD_set_far (l : List Nat) (i j x : Nat) (h : i ≠ j) : (l.set i x).getD j 0 = l.getD j 0 := by simp [List.getD_eq_getElem?_getD, List.getElem?_set_ne h]
theorem getD_at (l : List Nat) (i : Nat) (hi : i < l.length) : l.getD i 0 = l[i] := by rw [List.getD_eq_getElem?_getD, List.getElem?_eq_getElem hi]; rfl
theorem mod_div (t : Nat) : t % BB + BB * (t / BB) = t := Nat.mod_add_div t BB

/-- a sum: i words are done, c is carried -/
structure AddR (a b w : List Nat) (i c : Nat) : Prop where
  len : w.length = a.length + 1
  ws : Ws w
  zero : ∀ k, i ≤ k → w.getD k 0 = 0
  c1 : c ≤ 1
  val : wv w + BB ^ i * c = wv (a.take i) + wv (b.take i)
theorem AddR.start (a b : List Nat) : AddR a b (List.replicate (a.length + 1) 0) 0 0 :=
  ⟨by simp, Ws.zeros _, fun k _ => by rw [List.getD_eq_getElem?_getD, List.getElem?_replicate]; split <;> rfl, by omega, by rw [wv_zeros]; simp [wv_nil]⟩
theorem AddR.step {a b w : List Nat} {i c : Nat} (h : AddR a b w i c) (ha : Ws a) (hb : Ws b) (hi : i < a.length) (t : Nat) (ht : t = a.getD i 0 + c + b.getD i 0) : AddR a b (w.set i (t % BB)) (i + 1) (t / BB) := by
  have h1 := ha.getD i
  have h2 := hb.getD i
  have h3 := h.c1
  have h4 := mod_div t
  have h5 := Nat.mod_lt t BB_pos
  refine ⟨by rw [List.length_set]; exact h.len, h.ws.set i h5, fun k hk => by rw [getD_set_far _ _ _ _ (by omega)]; exact h.zero k (by omega), ?_, ?_⟩
  · have : t / BB < 2 := (Nat.div_lt_iff_lt_mul BB_pos).2 (by omega)
    omega
  · rw [wv_set0 w i _ (by rw [h.len]; omega) (h.zero i (Nat.le_refl _)), wv_take_getD, wv_take_getD, Nat.pow_succ, Nat.mul_assoc, Nat.add_assoc, ← Nat.mul_add, h4, ht, Nat.mul_add, Nat.mul_add]
    have := h.val
    omega
theorem AddR.done {a b w : List Nat} {c : Nat} (h : AddR a b w a.length c) (hl : b.length ≤ a.length) : wv (w.set a.length c) = wv a + wv b ∧ Ws (w.set a.length c) ∧ (w.set a.length c).length = a.length + 1 := by
  have h1 := h.val
  rw [wv_take_all a _ (Nat.le_refl _), wv_take_all b _ hl] at h1
  refine ⟨by rw [wv_set0 w _ _ (by rw [h.len]; omega) (h.zero _ (Nat.le_refl _)), h1], h.ws.set _ ?_, by rw [List.length_set, h.len]⟩
  have := h.c1
  rw [BB_eq]; omega

/-- a difference: i words are done, c is borrowed -/
structure SubR (a b w : List Nat) (i c : Nat) : Prop where
  len : w.length = a.length
  ws : Ws w
  zero : ∀ k, i ≤ k → w.getD k 0 = 0
  c1 : c ≤ 1
  val : wv w + wv (b.take i) = wv (a.take i) + BB ^ i * c
theorem SubR.start (a b : List Nat) : SubR a b (List.replicate a.length 0) 0 0 :=
  ⟨by simp, Ws.zeros _, fun k _ => by rw [List.getD_eq_getElem?_getD, List.getElem?_replicate]; split <;> rfl, by omega, by rw [wv_zeros]; simp [wv_nil]⟩
/-- x words and a borrow c from y: what is left in the word, what is borrowed -/
theorem borrow_step (y x c : Nat) (hy : y < BB) (hx : x + c ≤ BB) : ∃ r c', r < BB ∧ c' ≤ 1 ∧ r + x + c = y + BB * c' ∧ (c' = if y < x + c then 1 else 0) := by
  by_cases h : y < x + c
  · exact ⟨y + BB - (x + c), 1, by omega, by omega, by omega, by rw [if_pos h]⟩
  · exact ⟨y - (x + c), 0, by omega, by omega, by omega, by rw [if_neg h]⟩
theorem SubR.step {a b w : List Nat} {i c : Nat} (h : SubR a b w i c) (hi : i < a.length) (r c' : Nat) (hr : r < BB) (hc : c' ≤ 1) (he : r + b.getD i 0 + c = a.getD i 0 + BB * c') : SubR a b (w.set i r) (i + 1) c' := by
  refine ⟨by rw [List.length_set]; exact h.len, h.ws.set i hr, fun k hk => by rw [getD_set_far _ _ _ _ (by omega)]; exact h.zero k (by omega), hc, ?_⟩
  rw [wv_set0 w i _ (by rw [h.len]; omega) (h.zero i (Nat.le_refl _)), wv_take_getD, wv_take_getD, Nat.pow_succ, Nat.mul_assoc]
  have h1 := h.val
  have h2 : BB ^ i * (r + b.getD i 0 + c) = BB ^ i * (a.getD i 0 + BB * c') := by rw [he]
  rw [Nat.mul_add, Nat.mul_add, Nat.mul_add] at h2
  omega
theorem SubR.done {a b w : List Nat} {c : Nat} (h : SubR a b w a.length c) (hl : b.length ≤ a.length) (hle : wv b ≤ wv a) : wv w = wv a - wv b ∧ c = 0 := by
  have h1 := h.val
  rw [wv_take_all a _ (Nat.le_refl _), wv_take_all b _ hl] at h1
  have h2 := wv_lt w h.ws
  rw [h.len] at h2
  have h3 := h.c1
  have h4 : c = 0 := by
    apply Decidable.byContradiction
    intro hc
    have : c = 1 := by omega
    subst this
    omega
  subst h4
  exact ⟨by omega, rfl⟩

/-- a product: i words of a are done; in the next one j words of b, c is carried -/
structure MulR (a b w : List Nat) (i j c : Nat) : Prop where
  len : w.length = a.length + b.length
  ws : Ws w
  zero : ∀ k, i + b.length ≤ k → w.getD k 0 = 0
  c1 : c < BB
  val : wv w + BB ^ (i + j) * c = wv (a.take i) * wv b + BB ^ i * a.getD i 0 * wv (b.take j)
theorem MulR.start (a b : List Nat) : MulR a b (List.replicate (a.length + b.length) 0) 0 0 0 :=
  ⟨by simp, Ws.zeros _, fun k _ => by rw [List.getD_eq_getElem?_getD, List.getElem?_replicate]; split <;> rfl, BB_pos, by rw [wv_zeros]; simp [wv_nil]⟩
theorem mul_word (x y z c : Nat) (hx : x < BB) (hy : y < BB) (hz : z < BB) (hc : c < BB) : x * y + z + c < BB * BB := by
  have key : ∀ b : Nat, x < b → y < b → z < b → c < b → x * y + z + c < b * b := by
    intro b h1 h2 h3 h4
    obtain ⟨k, rfl⟩ : ∃ k, b = k + 1 := ⟨b - 1, by omega⟩
    have h5 : x * y ≤ k * k := Nat.mul_le_mul (by omega) (by omega)
    have h6 : (k + 1) * (k + 1) = k * k + 2 * k + 1 := by grind
    omega
  exact key BB hx hy hz hc
theorem MulR.step {a b w : List Nat} {i j c : Nat} (h : MulR a b w i j c) (ha : Ws a) (hb : Ws b) (hi : i < a.length) (hj : j < b.length) (t : Nat) (ht : t = a.getD i 0 * b.getD j 0 + w.getD (i + j) 0 + c) :
    MulR a b (w.set (i + j) (t % BB)) i (j + 1) (t / BB) ∧ t < BB * BB := by
  have h1 := ha.getD i
  have h2 := hb.getD j
  have h3 := h.ws.getD (i + j)
  have h4 := mod_div t
  have h5 := mul_word _ _ _ _ h1 h2 h3 h.c1
  rw [← ht] at h5
  refine ⟨⟨by rw [List.length_set]; exact h.len, h.ws.set _ (Nat.mod_lt t BB_pos), fun k hk => by rw [getD_set_far _ _ _ _ (by omega)]; exact h.zero k hk, (Nat.div_lt_iff_lt_mul BB_pos).2 h5, ?_⟩, h5⟩
  have hl : i + j < w.length := by rw [h.len]; omega
  have hs := wv_set w (i + j) (t % BB) hl
  have hv := h.val
  rw [← getD_at w _ hl] at hs
  rw [wv_take_getD, Nat.mul_add, ← Nat.add_assoc i j 1, Nat.pow_succ, Nat.mul_assoc]
  have e1 : BB ^ i * a.getD i 0 * (BB ^ j * b.getD j 0) = BB ^ (i + j) * (a.getD i 0 * b.getD j 0) := by rw [Nat.pow_add]; grind
  have e2 : BB ^ (i + j) * t = BB ^ (i + j) * (a.getD i 0 * b.getD j 0) + BB ^ (i + j) * w.getD (i + j) 0 + BB ^ (i + j) * c := by rw [ht, Nat.mul_add, Nat.mul_add]
  have e3 : BB ^ (i + j) * (t % BB) + BB ^ (i + j) * (BB * (t / BB)) = BB ^ (i + j) * t := by rw [← Nat.mul_add, h4]
  rw [e1]
  omega
theorem MulR.next {a b w : List Nat} {i c : Nat} (h : MulR a b w i b.length c) (hi : i < a.length) : MulR a b (w.set (i + b.length) c) (i + 1) 0 0 := by
  have hl : i + b.length < w.length := by rw [h.len]; omega
  refine ⟨by rw [List.length_set]; exact h.len, h.ws.set _ h.c1, fun k hk => by rw [getD_set_far _ _ _ _ (by omega)]; exact h.zero k (by omega), BB_pos, ?_⟩
  rw [wv_set0 w _ _ hl (h.zero _ (Nat.le_refl _)), wv_take_getD]
  have := h.val
  rw [wv_take_all b _ (Nat.le_refl _)] at this
  simp only [List.take_zero, wv_nil, Nat.mul_zero, Nat.add_zero]
  rw [this, Nat.add_mul]
theorem MulR.done {a b w : List Nat} (h : MulR a b w a.length 0 0) : wv w = wv a * wv b := by
  have := h.val
  rw [wv_take_all a _ (Nat.le_refl _)] at this
  simpa [wv_nil] using this

/-- a quotient by one word, from the top: the words from i on are done, r is left -/
structure DivR (a q : List Nat) (b i r : Nat) : Prop where
  len : q.length = a.length
  ws : Ws q
  zero : ∀ k, k < i → q.getD k 0 = 0
  r1 : r < b
  val : wv (q.drop i) * b + r = wv (a.drop i)
theorem DivR.start (a : List Nat) (b : Nat) (hb : 0 < b) : DivR a (List.replicate a.length 0) b a.length 0 :=
  ⟨by simp, Ws.zeros _, fun k _ => by rw [List.getD_eq_getElem?_getD, List.getElem?_replicate]; split <;> rfl, hb, by simp [wv_nil]⟩
theorem wv_drop_getD (l : List Nat) (i : Nat) (hi : i < l.length) : wv (l.drop i) = l.getD i 0 + BB * wv (l.drop (i + 1)) := by rw [wv_drop_succ l i hi, getD_at l i hi]
theorem DivR.step {a q : List Nat} {b i r : Nat} (h : DivR a q b (i + 1) r) (ha : Ws a) (hi : i < a.length) (t : Nat) (ht : t = r * BB + a.getD i 0) : DivR a (q.set i (t / b)) b i (t % b) ∧ t / b < BB := by
  have h1 := ha.getD i
  have h2 := h.r1
  have hb0 : 0 < b := by omega
  have h3 : t < b * BB := by
    have : (r + 1) * BB ≤ b * BB := Nat.mul_le_mul_right _ h2
    rw [Nat.add_mul, Nat.one_mul] at this
    omega
  have h4 : t / b < BB := (Nat.div_lt_iff_lt_mul hb0).2 (by rw [Nat.mul_comm]; exact h3)
  refine ⟨⟨by rw [List.length_set]; exact h.len, h.ws.set _ h4, fun k hk => by rw [getD_set_far _ _ _ _ (by omega)]; exact h.zero k (by omega), Nat.mod_lt _ hb0, ?_⟩, h4⟩
  have hq : i < q.length := by rw [h.len]; exact hi
  rw [wv_drop_getD _ i (by rw [List.length_set]; exact hq), getD_set_same q i _ hq, List.drop_set_of_lt (by omega), wv_drop_getD a i hi]
  have h5 := Nat.mod_add_div t b
  have h6 := h.val
  have h7 : BB * (wv (q.drop (i + 1)) * b + r) = BB * wv (a.drop (i + 1)) := by rw [h6]
  rw [Nat.mul_add] at h7
  rw [Nat.add_mul, Nat.mul_assoc, Nat.mul_comm (t / b) b, ← h7]
  have : r * BB = BB * r := Nat.mul_comm _ _
  omega
theorem DivR.done {a q : List Nat} {b r : Nat} (h : DivR a q b 0 r) : wv q = wv a / b ∧ r = wv a % b := by
  have h1 := h.val
  rw [List.drop_zero, List.drop_zero] at h1
  have h2 := h.r1
  rw [← h1]
  have h0 : 0 < b := by omega
  refine ⟨?_, ?_⟩
  · rw [Nat.mul_comm, Nat.mul_add_div h0, Nat.div_eq_of_lt h2, Nat.add_zero]
  · rw [Nat.mul_comm, Nat.mul_add_mod, Nat.mod_eq_of_lt h2]
end Nmx

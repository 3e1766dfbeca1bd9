/- Plain words about one word of a long quotient: no program. -/
import Derived.Test.YtgehimcngljmnaaGreatDoorD
namespace Nmx

/-- the leading words of the divisor D (d1, d2) and of the dividend U (top: two words; u2) over P -/
structure Lead (b d1 d2 P D0 D top u2 U0 U : Nat) : Prop where
  D_eq : D = (d1 * b + d2) * P + D0
  D0_lt : D0 < P
  U_eq : U = (top * b + u2) * P + U0
  U0_lt : U0 < P
  d2_lt : d2 < b
  u2_lt : u2 < b
  d1_lt : d1 < b
  half : b ≤ 2 * d1
  big : 2 ≤ b
  less : U < b * D
theorem Lead.low {b d1 d2 P D0 D top u2 U0 U : Nat} (h : Lead b d1 d2 P D0 D top u2 U0 U) : d1 * b * P ≤ D ∧ D < (d1 * b + b) * P ∧ top * b * P ≤ U ∧ U < (top * b + b) * P := by
  have h1 := h.D_eq
  have h2 := h.U_eq
  have h3 := h.D0_lt
  have h4 := h.U0_lt
  have e1 : (d2 + 1) * P ≤ b * P := Nat.mul_le_mul_right _ h.d2_lt
  have e2 : (u2 + 1) * P ≤ b * P := Nat.mul_le_mul_right _ h.u2_lt
  rw [Nat.add_mul, Nat.one_mul] at e1 e2
  rw [Nat.add_mul] at h1 h2
  rw [Nat.add_mul, Nat.add_mul]
  exact ⟨by omega, by omega, by omega, by omega⟩
theorem Lead.top_lt {b d1 d2 P D0 D top u2 U0 U : Nat} (h : Lead b d1 d2 P D0 D top u2 U0 U) : top < b * d1 + b := by
  obtain ⟨_, h2, h3, _⟩ := h.low
  have h5 := h.less
  have h6 : b * D ≤ b * ((d1 * b + b) * P) := Nat.mul_le_mul_left _ (Nat.le_of_lt h2)
  have h7 : top * b * P < b * ((d1 * b + b) * P) := by omega
  have e : b * ((d1 * b + b) * P) = (b * d1 + b) * (b * P) := by grind
  rw [e, Nat.mul_assoc] at h7
  exact Nat.lt_of_mul_lt_mul_right h7
theorem Lead.start {b d1 d2 P D0 D top u2 U0 U : Nat} (h : Lead b d1 d2 P D0 D top u2 U0 U) : U < (top / d1 + 1) * D ∧ top / d1 ≤ b + 1 ∧ top / d1 * d1 + top % d1 = top ∧ top % d1 < d1 := by
  obtain ⟨h1, h2, h3, h4⟩ := h.low
  have hd : 0 < d1 := by have := h.half; have := h.big; omega
  have h5 := Nat.div_add_mod top d1
  have h6 := Nat.mod_lt top hd
  have h7 := h.top_lt
  refine ⟨?_, ?_, by rw [Nat.mul_comm]; exact h5, h6⟩
  · have e1 : top + 1 ≤ (top / d1 + 1) * d1 := by rw [Nat.add_mul, Nat.mul_comm (top / d1)]; omega
    have e2 : (top + 1) * (b * P) ≤ (top / d1 + 1) * d1 * (b * P) := Nat.mul_le_mul_right _ e1
    have e3 : (top / d1 + 1) * (d1 * b * P) ≤ (top / d1 + 1) * D := Nat.mul_le_mul_left _ h1
    have e4 : (top / d1 + 1) * d1 * (b * P) = (top / d1 + 1) * (d1 * b * P) := by grind
    have e5 : (top + 1) * (b * P) = (top * b + b) * P := by grind
    omega
  · have e1 : top < (b + 2) * d1 := by
      have := h.half
      rw [Nat.add_mul]; omega
    have := (Nat.div_lt_iff_lt_mul hd).2 e1
    omega
theorem Lead.step {b d1 d2 P D0 D top u2 U0 U q r : Nat} (h : Lead b d1 d2 P D0 D top u2 U0 U) (he : q * d1 + r = top) (hc : b ≤ q ∨ r * b + u2 < q * d2) : U < q * D ∧ 0 < q := by
  have hb := h.big
  rcases hc with hc | hc
  · refine ⟨Nat.lt_of_lt_of_le h.less (Nat.mul_le_mul_right _ hc), by omega⟩
  · refine ⟨?_, ?_⟩
    · have h1 : q * D = (q * d1 * b + q * d2) * P + q * D0 := by rw [h.D_eq]; grind
      have h2 : (q * d1 * b + (r * b + u2 + 1)) * P ≤ (q * d1 * b + q * d2) * P := Nat.mul_le_mul_right _ (by omega)
      have h3 : (q * d1 * b + (r * b + u2 + 1)) * P = (top * b + u2) * P + P := by rw [← he]; grind
      have h4 := h.U_eq
      have h5 := h.U0_lt
      omega
    · rcases Nat.eq_zero_or_pos q with h0 | h0
      · subst h0; simp at hc
      · exact h0
theorem Lead.exit1 {b d1 d2 P D0 D top u2 U0 U q r : Nat} (h : Lead b d1 d2 P D0 D top u2 U0 U) (he : q * d1 + r = top) (hq : q < b) (hc : q * d2 ≤ r * b + u2) : q * D ≤ U + D := by
  have h1 : q * D = (q * d1 * b + q * d2) * P + q * D0 := by rw [h.D_eq]; grind
  have h2 : (q * d1 * b + q * d2) * P ≤ (q * d1 * b + (r * b + u2)) * P := Nat.mul_le_mul_right _ (by omega)
  have h3 : (q * d1 * b + (r * b + u2)) * P = (top * b + u2) * P := by rw [← he]; grind
  have h4 := h.U_eq
  have h5 : q * D0 ≤ b * P := Nat.mul_le_mul (by omega) (Nat.le_of_lt h.D0_lt)
  have h6 : 1 * (b * P) ≤ d1 * (b * P) := Nat.mul_le_mul_right _ (by have := h.half; have := h.big; omega)
  rw [← Nat.mul_assoc d1] at h6
  have h7 := h.low.1
  omega
theorem Lead.exit2 {b d1 d2 P D0 D top u2 U0 U q r : Nat} (h : Lead b d1 d2 P D0 D top u2 U0 U) (he : q * d1 + r = top) (hq : q ≤ b) (hr : b ≤ r) : q * D ≤ U := by
  obtain ⟨h1, h2, h3, h4⟩ := h.low
  have e1 : q * D ≤ q * ((d1 * b + b) * P) := Nat.mul_le_mul_left _ (Nat.le_of_lt h2)
  have e2 : q * ((d1 * b + b) * P) = (q * d1 + q) * (b * P) := by grind
  have e3 : (q * d1 + q) * (b * P) ≤ top * (b * P) := Nat.mul_le_mul_right _ (by omega)
  rw [← Nat.mul_assoc top] at e3
  omega
/-- what the first guess may be: the quotient or one more -/
theorem guess {D U q : Nat} (h1 : U < (q + 1) * D) (h2 : q * D ≤ U + D) : (q * D ≤ U ∧ U / D = q ∧ U % D = U - q * D) ∨ (U < q * D ∧ 0 < q ∧ U / D = q - 1 ∧ U % D = U + D - q * D) := by
  have hD : 0 < D := by
    rcases Nat.eq_zero_or_pos D with h | h
    · subst h; simp at h1
    · exact h
  by_cases hle : q * D ≤ U
  · left
    rw [Nat.add_mul, Nat.one_mul] at h1
    have e : U / D = q := Nat.div_eq_of_lt_le hle (by rw [Nat.add_mul, Nat.one_mul]; omega)
    refine ⟨hle, e, ?_⟩
    have := Nat.div_add_mod U D
    rw [e, Nat.mul_comm] at this
    omega
  · right
    have hq : 0 < q := by
      rcases Nat.eq_zero_or_pos q with h | h
      · subst h; simp at hle
      · exact h
    obtain ⟨p, rfl⟩ : ∃ p, q = p + 1 := ⟨q - 1, by omega⟩
    rw [Nat.add_mul, Nat.one_mul] at h2 hle
    have e : U / D = p := Nat.div_eq_of_lt_le (by omega) (by rw [Nat.add_mul, Nat.one_mul]; omega)
    refine ⟨by rw [Nat.add_mul, Nat.one_mul]; omega, by omega, by rw [e]; rfl, ?_⟩
    have := Nat.div_add_mod U D
    rw [e, Nat.mul_comm] at this
    rw [Nat.add_mul, Nat.one_mul]
    omega

/-- u less q times d: i words are done; c is carried, k is borrowed -/
structure SubMulR (u d u' : List Nat) (q i c k : Nat) : Prop where
  len : u'.length = u.length
  ws : Ws u'
  rest : ∀ j, i ≤ j → u'.getD j 0 = u.getD j 0
  c1 : c < BB
  k1 : k ≤ 1
  val : wv (u'.take i) + q * wv (d.take i) = wv (u.take i) + BB ^ i * (c + k)
theorem SubMulR.start (u d : List Nat) (q : Nat) (hu : Ws u) : SubMulR u d u q 0 0 0 := ⟨rfl, hu, fun _ _ => rfl, BB_pos, by omega, by simp [wv_nil]⟩
theorem take_set_at (l : List Nat) (i x : Nat) (hi : i < l.length) : wv ((l.set i x).take (i + 1)) = wv (l.take i) + BB ^ i * x := by
  rw [wv_take_getD, getD_set_same l i x hi, List.take_set, List.set_eq_of_length_le (by rw [List.length_take]; omega)]
theorem SubMulR.step {u d u' : List Nat} {q i c k : Nat} (h : SubMulR u d u' q i c k) (hd : Ws d) (hq : q < BB) (hi : i < d.length) (hl : d.length < u.length) (p : Nat) (hp : p = q * d.getD i 0 + c) (r k' : Nat) (hr : r < BB) (hk : k' ≤ 1)
    (he : r + p % BB + k = u.getD i 0 + BB * k') : SubMulR u d (u'.set i r) q (i + 1) (p / BB) k' ∧ p < BB * BB := by
  have h1 := hd.getD i
  have h2 := mul_word q (d.getD i 0) 0 c hq h1 BB_pos h.c1
  rw [Nat.add_zero, ← hp] at h2
  refine ⟨⟨by rw [List.length_set]; exact h.len, h.ws.set _ hr, fun j hj => by rw [getD_set_far _ _ _ _ (by omega)]; exact h.rest j (by omega), (Nat.div_lt_iff_lt_mul BB_pos).2 h2, hk, ?_⟩, h2⟩
  rw [take_set_at _ _ _ (by rw [h.len]; omega), wv_take_getD d, wv_take_getD u, Nat.pow_succ, Nat.mul_add q, Nat.mul_assoc]
  have h3 := h.val
  have h4 := mod_div p
  have e1 : BB ^ i * (r + p % BB + k) = BB ^ i * (u.getD i 0 + BB * k') := by rw [he]
  have e2 : BB ^ i * (p % BB + BB * (p / BB)) = BB ^ i * (q * d.getD i 0 + c) := by rw [h4, hp]
  have e3 : q * (BB ^ i * d.getD i 0) = BB ^ i * (q * d.getD i 0) := by grind
  simp only [Nat.mul_add] at *
  omega
/-- the last word: with a borrow or not -/
theorem SubMulR.last {u d u' : List Nat} {q c k : Nat} (h : SubMulR u d u' q d.length c k) (hl : u.length = d.length + 1) :
    wv (u'.take d.length) + q * wv d + BB ^ d.length * u.getD d.length 0 = wv u + BB ^ d.length * (c + k) := by
  have h1 := h.val
  rw [wv_take_all d _ (Nat.le_refl _)] at h1
  have h2 := wv_take_getD u d.length
  rw [wv_take_all u _ (by omega)] at h2
  omega
/-- d is added back: i words are done, c is carried -/
structure BackR (u d u' : List Nat) (i c : Nat) : Prop where
  len : u'.length = u.length
  ws : Ws u'
  rest : ∀ j, i ≤ j → u'.getD j 0 = u.getD j 0
  c1 : c ≤ 1
  val : wv (u'.take i) + BB ^ i * c = wv (u.take i) + wv (d.take i)
theorem BackR.start (u d : List Nat) (hu : Ws u) : BackR u d u 0 0 := ⟨rfl, hu, fun _ _ => rfl, by omega, by simp [wv_nil]⟩
theorem BackR.step {u d u' : List Nat} {i c : Nat} (h : BackR u d u' i c) (hu : Ws u) (hd : Ws d) (hi : i < d.length) (hl : d.length < u.length) (s : Nat) (hs : s = u.getD i 0 + d.getD i 0 + c) : BackR u d (u'.set i (s % BB)) (i + 1) (s / BB) := by
  have h1 := hu.getD i
  have h2 := hd.getD i
  have h3 := h.c1
  have h4 := mod_div s
  refine ⟨by rw [List.length_set]; exact h.len, h.ws.set _ (Nat.mod_lt _ BB_pos), fun j hj => by rw [getD_set_far _ _ _ _ (by omega)]; exact h.rest j (by omega), ?_, ?_⟩
  · have : s / BB < 2 := (Nat.div_lt_iff_lt_mul BB_pos).2 (by omega)
    omega
  · rw [take_set_at _ _ _ (by rw [h.len]; omega), wv_take_getD d, wv_take_getD u, Nat.pow_succ, Nat.mul_assoc]
    have h5 := h.val
    have e1 : BB ^ i * (s % BB + BB * (s / BB)) = BB ^ i * (u.getD i 0 + d.getD i 0 + c) := by rw [h4, hs]
    simp only [Nat.mul_add] at *
    omega
end Nmx

/- Plain words about rows of words of 32 bits: no program. -/
namespace Nmx
/-- the number of values of a word -/
noncomputable def BB : Nat := (Classical.choice ⟨(⟨4294967296, rfl⟩ : { n : Nat // n = 4294967296 })⟩).1
theorem aC : BB = 4294967296 := (Classical.choice ⟨(⟨4294967296, rfl⟩ : { n : Nat // n = 4294967296 })⟩).2
/-- what a row of words denotes, the least significant word first -/
noncomputable def wv : List Nat → Nat
 | [] => 0
 | x :: l => x + BB * wv l
def Ws (l : List Nat) : Prop := ∀ x ∈ l, x < BB
theorem bZ : wv [] = 0 := rfl
theorem wv_cons (x : Nat) (l : List Nat) : wv (x :: l) = x + BB * wv l := rfl
theorem wv_append (a b : List Nat) : wv (a ++ b) = wv a + BB ^ a.length * wv b := by
 induction a with
 | nil => simp [bZ]
 | cons x r ih =>
   rw [List.cons_append, wv_cons, wv_cons, ih, List.length_cons, Nat.pow_succ, Nat.mul_add, Nat.add_assoc]
   congr 2
   rw [← Nat.mul_assoc, Nat.mul_comm BB]
theorem wv_one (x : Nat) : wv [x] = x := by simp [wv_cons, bZ]
theorem wv_snoc (l : List Nat) (x : Nat) : wv (l ++ [x]) = wv l + BB ^ l.length * x := by rw [wv_append, wv_one]
theorem wv_zeros (n : Nat) : wv (List.replicate n 0) = 0 := by
 induction n with
 | zero => rfl
 | succ n ih => rw [List.replicate_succ, wv_cons, ih]; simp
theorem aO : 0 < BB := by rw [aC]; omega
theorem BBp_pos (n : Nat) : 0 < BB ^ n := Nat.pow_pos aO
theorem Ws.cons {x : Nat} {l : List Nat} (hx : x < BB) (h : Ws l) : Ws (x :: l) := fun y hy => by
 rw [List.mem_cons] at hy;rcases hy with rfl | hy
 · exact hx
 · exact h y hy
theorem Ws.nil : Ws [] := fun _ h => by cases h
theorem Ws.append {a b : List Nat} (ha : Ws a) (hb : Ws b) : Ws (a ++ b) := fun y hy => by
 rw [List.mem_append] at hy;rcases hy with h | h
 · exact ha y h
 · exact hb y h
theorem Ws.left {a b : List Nat} (h : Ws (a ++ b)) : Ws a := fun y hy => h y (List.mem_append_left _ hy)
theorem Ws.right {a b : List Nat} (h : Ws (a ++ b)) : Ws b := fun y hy => h y (List.mem_append_right _ hy)
theorem Ws.take {l : List Nat} (h : Ws l) (n : Nat) : Ws (l.take n) := fun y hy => h y (List.mem_of_mem_take hy)
theorem Ws.drop {l : List Nat} (h : Ws l) (n : Nat) : Ws (l.drop n) := fun y hy => h y (List.mem_of_mem_drop hy)
theorem Ws.set {l : List Nat} (h : Ws l) (i : Nat) {x : Nat} (hx : x < BB) : Ws (l.set i x) := fun y hy => by
 rcases List.mem_or_eq_of_mem_set hy with h1 | h1
 · exact h y h1
 · rw [h1]; exact hx
theorem Ws.zeros (n : Nat) : Ws (List.replicate n 0) := fun y hy => by rw [(List.mem_replicate.1 hy).2]; exact aO
theorem Ws.get {l : List Nat} (h : Ws l) (i : Nat) (hi : i < l.length) : l[i] < BB := h _ (List.getElem_mem hi)
theorem wv_lt (l : List Nat) (h : Ws l) : wv l < BB ^ l.length := by
 induction l with
 | nil => simp [bZ]
 | cons x r ih =>
   have h1 := h x (by simp);have h2 := ih (fun y hy => h y (by simp [hy]));rw [wv_cons, List.length_cons, Nat.pow_succ];have : BB * (wv r + 1) ≤ BB * BB ^ r.length := Nat.mul_le_mul_left _ h2;rw [Nat.mul_add, Nat.mul_one, Nat.mul_comm BB (BB ^ r.length)] at this
   omega
theorem wv_set (l : List Nat) (i x : Nat) (hi : i < l.length) : wv (l.set i x) + BB ^ i * l[i] = wv l + BB ^ i * x := by
 induction l generalizing i with
 | nil => simp at hi
 | cons y r ih =>
   cases i with
   | zero => simp only [List.set_cons_zero, wv_cons, List.getElem_cons_zero, Nat.pow_zero, Nat.one_mul]; omega
   | succ i =>
     simp only [List.set_cons_succ, wv_cons, List.getElem_cons_succ];have := ih i (by simpa using hi);rw [Nat.pow_succ, Nat.mul_right_comm, Nat.mul_right_comm (BB ^ i) BB x, Nat.mul_comm _ BB, Nat.mul_comm _ BB];have h2 : BB * (wv (r.set i x) + BB ^ i * r[i]'(by simpa using hi)) = BB * (wv r + BB ^ i * x) := by rw [this]
     rw [Nat.mul_add, Nat.mul_add] at h2
     omega
theorem wv_take_succ (l : List Nat) (i : Nat) (hi : i < l.length) : wv (l.take (i + 1)) = wv (l.take i) + BB ^ i * l[i] := by
 rw [List.take_succ_eq_append_getElem hi, wv_snoc, List.length_take, Nat.min_eq_left (by omega)]
theorem bd (l : List Nat) (i : Nat) (hi : l.length ≤ i) : wv (l.take i) = wv l := by rw [List.take_of_length_le hi]
theorem wv_split (l : List Nat) (i : Nat) : wv l = wv (l.take i) + BB ^ (min i l.length) * wv (l.drop i) := by
 rw [← List.length_take, ← wv_append, List.take_append_drop]
theorem wv_drop_succ (l : List Nat) (i : Nat) (hi : i < l.length) : wv (l.drop i) = l[i] + BB * wv (l.drop (i + 1)) := by
 rw [List.drop_eq_getElem_cons hi, wv_cons]
/-- without leading zero words -/
def bY (l : List Nat) : List Nat := (l.reverse.dropWhile (· == 0)).reverse
theorem trimW_nil : bY [] = [] := rfl
theorem trimW_zero (l : List Nat) : bY (l ++ [0]) = bY l := by simp [bY]
theorem trimW_stop (l : List Nat) (x : Nat) (hx : x ≠ 0) : bY (l ++ [x]) = l ++ [x] := by simp [bY, hx]
def Norm (l : List Nat) : Prop := Ws l ∧ ∀ x, l.getLast? = some x → x ≠ 0
theorem snocCases {P : List Nat → Prop} (h0 : P []) (hs : ∀ l a, P l → P (l ++ [a])) (l : List Nat) : P l := by
 have h : ∀ l : List Nat, P l.reverse := by
  intro l
  induction l with
  | nil => exact h0
  | cons a r ih => rw [List.reverse_cons]; exact hs _ _ ih
 have := h l.reverse;rwa [List.reverse_reverse] at this
theorem trimW_wv (l : List Nat) : wv (bY l) = wv l := by
 induction l using snocCases with
 | h0 => rfl
 | hs l a ih =>
   by_cases h : a = 0
   · subst h; rw [trimW_zero, ih, wv_snoc]; simp
   · rw [trimW_stop _ _ h]
theorem trimW_norm (l : List Nat) (h : Ws l) : Norm (bY l) := by
 induction l using snocCases with
 | h0 => exact ⟨Ws.nil, fun x hx => by cases hx⟩
 | hs l a ih =>
   by_cases ha : a = 0
   · subst ha; rw [trimW_zero]; exact ih h.left
   · rw [trimW_stop _ _ ha];exact ⟨h, fun x hx => by rw [List.getLast?_append] at hx; simp at hx; omega⟩
theorem trimW_len (l : List Nat) : (bY l).length ≤ l.length := by
 induction l using snocCases with
 | h0 => simp [trimW_nil]
 | hs l a ih =>
   by_cases ha : a = 0
   · subst ha; rw [trimW_zero, List.length_append]; omega
   · rw [trimW_stop _ _ ha]; exact Nat.le_refl _
theorem trimW_take (l : List Nat) : bY l = l.take (bY l).length := by
 induction l using snocCases with
 | h0 => rfl
 | hs l a ih =>
   by_cases ha : a = 0
   · subst ha;rw [trimW_zero, List.take_append_of_le_length (trimW_len l)];exact ih
   · rw [trimW_stop _ _ ha, List.take_length]
theorem norm_pos (l : List Nat) (h : Norm l) (h0 : l ≠ []) : BB ^ (l.length - 1) ≤ wv l := by
 induction l using snocCases with
 | h0 => exact absurd rfl h0
 | hs l a _ =>
   have ha := h.2 a (by simp);rw [wv_snoc, List.length_append, List.length_singleton, Nat.add_sub_cancel];have : BB ^ l.length * 1 ≤ BB ^ l.length * a := Nat.mul_le_mul_left _ (by omega)
   omega
theorem norm_len_lt (a b : List Nat) (ha : Norm a) (hb : Norm b) (h : a.length < b.length) : wv a < wv b := by
 have h1 := wv_lt a ha.1;have h2 := norm_pos b hb (fun e => by subst e; simp at h);have h3 : BB ^ a.length ≤ BB ^ (b.length - 1) := Nat.pow_le_pow_right aO (by omega)
 omega
theorem norm_zero (l : List Nat) (h : Norm l) (h0 : wv l = 0) : l = [] := by
 apply Decidable.byContradiction;intro hne;have := norm_pos l h hne;have := BBp_pos (l.length - 1)
 omega
/-- from the top: the first words that differ decide -/
theorem wv_top (a b : List Nat) (hl : a.length = b.length) (ha : Ws a) (i : Nat) (hi : i < a.length) (he : a.drop (i + 1) = b.drop (i + 1)) (h : a[i] < b[i]'(by omega)) : wv a < wv b := by
 rw [wv_split a (i + 1), wv_split b (i + 1), he, hl, wv_take_succ a i hi, wv_take_succ b i (by omega)];have h1 := wv_lt (a.take i) (ha.take i);rw [List.length_take, Nat.min_eq_left (by omega)] at h1;have : BB ^ i * (a[i] + 1) ≤ BB ^ i * b[i]'(by omega) := Nat.mul_le_mul_left _ h;rw [Nat.mul_add, Nat.mul_one] at this
 omega
end Nmx
namespace Nmx
theorem wv_set0 (l : List Nat) (i x : Nat) (hi : i < l.length) (h0 : l.getD i 0 = 0) : wv (l.set i x) = wv l + BB ^ i * x := by
 have := wv_set l i x hi;have e : l[i] = 0 := by rw [List.getD_eq_getElem?_getD, List.getElem?_eq_getElem hi] at h0; simpa using h0
 rw [e, Nat.mul_zero, Nat.add_zero] at this;exact this
theorem aD (l : List Nat) (i : Nat) : wv (l.take (i + 1)) = wv (l.take i) + BB ^ i * l.getD i 0 := by
 by_cases hi : i < l.length
 · rw [wv_take_succ l i hi, List.getD_eq_getElem?_getD, List.getElem?_eq_getElem hi]; rfl
 · rw [List.take_of_length_le (by omega), List.take_of_length_le (by omega), List.getD_eq_getElem?_getD, List.getElem?_eq_none (by omega)]; simp
theorem Ws.getD {l : List Nat} (h : Ws l) (i : Nat) : l.getD i 0 < BB := by
 by_cases hi : i < l.length
 · rw [List.getD_eq_getElem?_getD, List.getElem?_eq_getElem hi]; exact h.get i hi
 · rw [List.getD_eq_getElem?_getD, List.getElem?_eq_none (by omega)]; exact aO
theorem getD_set_same (l : List Nat) (i x : Nat) (hi : i < l.length) : (l.set i x).getD i 0 = x := by simp [List.getD_eq_getElem?_getD, hi]
theorem br (l : List Nat) (i j x : Nat) (h : i ≠ j) : (l.set i x).getD j 0 = l.getD j 0 := by simp [List.getD_eq_getElem?_getD, List.getElem?_set_ne h]
theorem getD_at (l : List Nat) (i : Nat) (hi : i < l.length) : l.getD i 0 = l[i] := by rw [List.getD_eq_getElem?_getD, List.getElem?_eq_getElem hi]; rfl
theorem mod_div (t : Nat) : t % BB + BB * (t / BB) = t := Nat.mod_add_div t BB
/-- a sum: i words are done, c is carried -/
structure AddR (a b w : List Nat) (i c : Nat) : Prop where
 len : w.length = a.length + 1
 ws : Ws w
 zero : ∀ k, i ≤ k → w.getD k 0 = 0
 c1 : c ≤ 1
 val : wv w + BB ^ i * c = wv (a.take i) + wv (b.take i)
theorem AddR.start (a b : List Nat) : AddR a b (List.replicate (a.length + 1) 0) 0 0 :=
 ⟨by simp, Ws.zeros _, fun k _ => by rw [List.getD_eq_getElem?_getD, List.getElem?_replicate]; split <;> rfl, by omega, by rw [wv_zeros]; simp [bZ]⟩
theorem AddR.step {a b w : List Nat} {i c : Nat} (h : AddR a b w i c) (ha : Ws a) (hb : Ws b) (hi : i < a.length) (t : Nat) (ht : t = a.getD i 0 + c + b.getD i 0) : AddR a b (w.set i (t % BB)) (i + 1) (t / BB) := by
 have h1 := ha.getD i;have h2 := hb.getD i;have h3 := h.c1;have h4 := mod_div t;have h5 := Nat.mod_lt t aO;refine ⟨by rw [List.length_set]; exact h.len, h.ws.set i h5, fun k hk => by rw [br _ _ _ _ (by omega)]; exact h.zero k (by omega), ?_, ?_⟩
 · have : t / BB < 2 := (Nat.div_lt_iff_lt_mul aO).2 (by omega)
   omega
 · rw [wv_set0 w i _ (by rw [h.len]; omega) (h.zero i (Nat.le_refl _)), aD, aD, Nat.pow_succ, Nat.mul_assoc, Nat.add_assoc, ← Nat.mul_add, h4, ht, Nat.mul_add, Nat.mul_add];have := h.val
   omega
theorem AddR.done {a b w : List Nat} {c : Nat} (h : AddR a b w a.length c) (hl : b.length ≤ a.length) : wv (w.set a.length c) = wv a + wv b ∧ Ws (w.set a.length c) ∧ (w.set a.length c).length = a.length + 1 := by
 have h1 := h.val;rw [bd a _ (Nat.le_refl _), bd b _ hl] at h1;refine ⟨by rw [wv_set0 w _ _ (by rw [h.len]; omega) (h.zero _ (Nat.le_refl _)), h1], h.ws.set _ ?_, by rw [List.length_set, h.len]⟩;have := h.c1;rw [aC]; omega
/-- a difference: i words are done, c is borrowed -/
structure SubR (a b w : List Nat) (i c : Nat) : Prop where
 len : w.length = a.length
 ws : Ws w
 zero : ∀ k, i ≤ k → w.getD k 0 = 0
 c1 : c ≤ 1
 val : wv w + wv (b.take i) = wv (a.take i) + BB ^ i * c
theorem SubR.start (a b : List Nat) : SubR a b (List.replicate a.length 0) 0 0 :=
 ⟨by simp, Ws.zeros _, fun k _ => by rw [List.getD_eq_getElem?_getD, List.getElem?_replicate]; split <;> rfl, by omega, by rw [wv_zeros]; simp [bZ]⟩
theorem SubR.step {a b w : List Nat} {i c : Nat} (h : SubR a b w i c) (hi : i < a.length) (r c' : Nat) (hr : r < BB) (hc : c' ≤ 1) (he : r + b.getD i 0 + c = a.getD i 0 + BB * c') : SubR a b (w.set i r) (i + 1) c' := by
 refine ⟨by rw [List.length_set]; exact h.len, h.ws.set i hr, fun k hk => by rw [br _ _ _ _ (by omega)]; exact h.zero k (by omega), hc, ?_⟩;rw [wv_set0 w i _ (by rw [h.len]; omega) (h.zero i (Nat.le_refl _)), aD, aD, Nat.pow_succ, Nat.mul_assoc];have h1 := h.val;have h2 : BB ^ i * (r + b.getD i 0 + c) = BB ^ i * (a.getD i 0 + BB * c') := by rw [he]
 rw [Nat.mul_add, Nat.mul_add, Nat.mul_add] at h2
 omega
theorem SubR.done {a b w : List Nat} {c : Nat} (h : SubR a b w a.length c) (hl : b.length ≤ a.length) (hle : wv b ≤ wv a) : wv w = wv a - wv b ∧ c = 0 := by
 have h1 := h.val;rw [bd a _ (Nat.le_refl _), bd b _ hl] at h1;have h2 := wv_lt w h.ws;rw [h.len] at h2;have h3 := h.c1
 have h4 : c = 0 := by
  apply Decidable.byContradiction;intro hc;have : c = 1 := by omega
  subst this
  omega
 subst h4;exact ⟨by omega, rfl⟩
/-- a product: i words of a are done; in the next one j words of b, c is carried -/
structure MulR (a b w : List Nat) (i j c : Nat) : Prop where
 len : w.length = a.length + b.length
 ws : Ws w
 zero : ∀ k, i + b.length ≤ k → w.getD k 0 = 0
 c1 : c < BB
 val : wv w + BB ^ (i + j) * c = wv (a.take i) * wv b + BB ^ i * a.getD i 0 * wv (b.take j)
theorem MulR.start (a b : List Nat) : MulR a b (List.replicate (a.length + b.length) 0) 0 0 0 :=
 ⟨by simp, Ws.zeros _, fun k _ => by rw [List.getD_eq_getElem?_getD, List.getElem?_replicate]; split <;> rfl, aO, by rw [wv_zeros]; simp [bZ]⟩
theorem mul_word (x y z c : Nat) (hx : x < BB) (hy : y < BB) (hz : z < BB) (hc : c < BB) : x * y + z + c < BB * BB := by
 have key : ∀ b : Nat, x < b → y < b → z < b → c < b → x * y + z + c < b * b := by
  intro b h1 h2 h3 h4;obtain ⟨k, rfl⟩ : ∃ k, b = k + 1 := ⟨b - 1, by omega⟩
  have h5 : x * y ≤ k * k := Nat.mul_le_mul (by omega) (by omega);have h6 : (k + 1) * (k + 1) = k * k + 2 * k + 1 := by grind
  omega
 exact key BB hx hy hz hc
theorem MulR.step {a b w : List Nat} {i j c : Nat} (h : MulR a b w i j c) (ha : Ws a) (hb : Ws b) (hi : i < a.length) (hj : j < b.length) (t : Nat) (ht : t = a.getD i 0 * b.getD j 0 + w.getD (i + j) 0 + c) :
    MulR a b (w.set (i + j) (t % BB)) i (j + 1) (t / BB) ∧ t < BB * BB := by
 have h1 := ha.getD i;have h2 := hb.getD j;have h3 := h.ws.getD (i + j);have h4 := mod_div t;have h5 := mul_word _ _ _ _ h1 h2 h3 h.c1;rw [← ht] at h5;refine ⟨⟨by rw [List.length_set]; exact h.len, h.ws.set _ (Nat.mod_lt t aO), fun k hk => by rw [br _ _ _ _ (by omega)]; exact h.zero k hk, (Nat.div_lt_iff_lt_mul aO).2 h5, ?_⟩, h5⟩;have hl : i + j < w.length := by rw [h.len]; omega
 have hs := wv_set w (i + j) (t % BB) hl;have hv := h.val;rw [← getD_at w _ hl] at hs;rw [aD, Nat.mul_add, ← Nat.add_assoc i j 1, Nat.pow_succ, Nat.mul_assoc];have e1 : BB ^ i * a.getD i 0 * (BB ^ j * b.getD j 0) = BB ^ (i + j) * (a.getD i 0 * b.getD j 0) := by rw [Nat.pow_add]; grind
 have e2 : BB ^ (i + j) * t = BB ^ (i + j) * (a.getD i 0 * b.getD j 0) + BB ^ (i + j) * w.getD (i + j) 0 + BB ^ (i + j) * c := by rw [ht, Nat.mul_add, Nat.mul_add]
 have e3 : BB ^ (i + j) * (t % BB) + BB ^ (i + j) * (BB * (t / BB)) = BB ^ (i + j) * t := by rw [← Nat.mul_add, h4]
 rw [e1]
 omega
theorem MulR.next {a b w : List Nat} {i c : Nat} (h : MulR a b w i b.length c) (hi : i < a.length) : MulR a b (w.set (i + b.length) c) (i + 1) 0 0 := by
 have hl : i + b.length < w.length := by rw [h.len]; omega
 refine ⟨by rw [List.length_set]; exact h.len, h.ws.set _ h.c1, fun k hk => by rw [br _ _ _ _ (by omega)]; exact h.zero k (by omega), aO, ?_⟩;rw [wv_set0 w _ _ hl (h.zero _ (Nat.le_refl _)), aD];have := h.val;rw [bd b _ (Nat.le_refl _)] at this;simp only [List.take_zero, bZ, Nat.mul_zero, Nat.add_zero];rw [this, Nat.add_mul]
theorem MulR.done {a b w : List Nat} (h : MulR a b w a.length 0 0) : wv w = wv a * wv b := by
 have := h.val;rw [bd a _ (Nat.le_refl _)] at this
 simpa [bZ] using this
/-- a quotient by one word, from the top: the words from i on are done, r is left -/
structure DivR (a q : List Nat) (b i r : Nat) : Prop where
 len : q.length = a.length
 ws : Ws q
 zero : ∀ k, k < i → q.getD k 0 = 0
 r1 : r < b
 val : wv (q.drop i) * b + r = wv (a.drop i)
theorem DivR.start (a : List Nat) (b : Nat) (hb : 0 < b) : DivR a (List.replicate a.length 0) b a.length 0 :=
 ⟨by simp, Ws.zeros _, fun k _ => by rw [List.getD_eq_getElem?_getD, List.getElem?_replicate]; split <;> rfl, hb, by simp [bZ]⟩
theorem bP (l : List Nat) (i : Nat) (hi : i < l.length) : wv (l.drop i) = l.getD i 0 + BB * wv (l.drop (i + 1)) := by rw [wv_drop_succ l i hi, getD_at l i hi]
theorem DivR.step {a q : List Nat} {b i r : Nat} (h : DivR a q b (i + 1) r) (ha : Ws a) (hi : i < a.length) (t : Nat) (ht : t = r * BB + a.getD i 0) : DivR a (q.set i (t / b)) b i (t % b) ∧ t / b < BB := by
 have h1 := ha.getD i;have h2 := h.r1;have hb0 : 0 < b := by omega
 have h3 : t < b * BB := by
  have : (r + 1) * BB ≤ b * BB := Nat.mul_le_mul_right _ h2;rw [Nat.add_mul, Nat.one_mul] at this
  omega
 have h4 : t / b < BB := (Nat.div_lt_iff_lt_mul hb0).2 (by rw [Nat.mul_comm]; exact h3);refine ⟨⟨by rw [List.length_set]; exact h.len, h.ws.set _ h4, fun k hk => by rw [br _ _ _ _ (by omega)]; exact h.zero k (by omega), Nat.mod_lt _ hb0, ?_⟩, h4⟩;have hq : i < q.length := by rw [h.len]; exact hi
 rw [bP _ i (by rw [List.length_set]; exact hq), getD_set_same q i _ hq, List.drop_set_of_lt (by omega), bP a i hi];have h5 := Nat.mod_add_div t b;have h6 := h.val;have h7 : BB * (wv (q.drop (i + 1)) * b + r) = BB * wv (a.drop (i + 1)) := by rw [h6]
 rw [Nat.mul_add] at h7;rw [Nat.add_mul, Nat.mul_assoc, Nat.mul_comm (t / b) b, ← h7];have : r * BB = BB * r := Nat.mul_comm _ _
 omega
theorem DivR.done {a q : List Nat} {b r : Nat} (h : DivR a q b 0 r) : wv q = wv a / b ∧ r = wv a % b := by
 have h1 := h.val;rw [List.drop_zero, List.drop_zero] at h1;have h2 := h.r1;rw [← h1];have h0 : 0 < b := by omega
 refine ⟨?_, ?_⟩
 · rw [Nat.mul_comm, Nat.mul_add_div h0, Nat.div_eq_of_lt h2, Nat.add_zero]
 · rw [Nat.mul_comm, Nat.mul_add_mod, Nat.mod_eq_of_lt h2]
end Nmx
namespace Nmx
/-- the leading words of the divisor D (d1, d2) and of the dividend U (top: two words; u2) over P -/
structure Lead (b d1 d2 P D0 D top u2 U0 U : Nat) : Prop where
 D_eq : D = (d1 * b + d2) * P + D0
 D0_lt : D0 < P
 U_eq : U = (top * b + u2) * P + U0
 U0_lt : U0 < P
 d2_lt : d2 < b
 u2_lt : u2 < b
 d1_lt : d1 < b
 half : b ≤ 2 * d1
 big : 2 ≤ b
 less : U < b * D
theorem Lead.low {b d1 d2 P D0 D top u2 U0 U : Nat} (h : Lead b d1 d2 P D0 D top u2 U0 U) : d1 * b * P ≤ D ∧ D < (d1 * b + b) * P ∧ top * b * P ≤ U ∧ U < (top * b + b) * P := by
 have h1 := h.D_eq;have h2 := h.U_eq;have h3 := h.D0_lt;have h4 := h.U0_lt;have e1 : (d2 + 1) * P ≤ b * P := Nat.mul_le_mul_right _ h.d2_lt;have e2 : (u2 + 1) * P ≤ b * P := Nat.mul_le_mul_right _ h.u2_lt;rw [Nat.add_mul, Nat.one_mul] at e1 e2;rw [Nat.add_mul] at h1 h2;rw [Nat.add_mul, Nat.add_mul];exact ⟨by omega, by omega, by omega, by omega⟩
theorem Lead.top_lt {b d1 d2 P D0 D top u2 U0 U : Nat} (h : Lead b d1 d2 P D0 D top u2 U0 U) : top < b * d1 + b := by
 obtain ⟨_, h2, h3, _⟩ := h.low;have h5 := h.less;have h6 : b * D ≤ b * ((d1 * b + b) * P) := Nat.mul_le_mul_left _ (Nat.le_of_lt h2);have h7 : top * b * P < b * ((d1 * b + b) * P) := by omega
 have e : b * ((d1 * b + b) * P) = (b * d1 + b) * (b * P) := by grind
 rw [e, Nat.mul_assoc] at h7;exact Nat.lt_of_mul_lt_mul_right h7
theorem Lead.start {b d1 d2 P D0 D top u2 U0 U : Nat} (h : Lead b d1 d2 P D0 D top u2 U0 U) : U < (top / d1 + 1) * D ∧ top / d1 ≤ b + 1 ∧ top / d1 * d1 + top % d1 = top ∧ top % d1 < d1 := by
 obtain ⟨h1, h2, h3, h4⟩ := h.low;have hd : 0 < d1 := by have := h.half; have := h.big; omega
 have h5 := Nat.div_add_mod top d1;have h6 := Nat.mod_lt top hd;have h7 := h.top_lt;refine ⟨?_, ?_, by rw [Nat.mul_comm]; exact h5, h6⟩
 · have e1 : top + 1 ≤ (top / d1 + 1) * d1 := by rw [Nat.add_mul, Nat.mul_comm (top / d1)]; omega
   have e2 : (top + 1) * (b * P) ≤ (top / d1 + 1) * d1 * (b * P) := Nat.mul_le_mul_right _ e1;have e3 : (top / d1 + 1) * (d1 * b * P) ≤ (top / d1 + 1) * D := Nat.mul_le_mul_left _ h1;have e4 : (top / d1 + 1) * d1 * (b * P) = (top / d1 + 1) * (d1 * b * P) := by grind
   have e5 : (top + 1) * (b * P) = (top * b + b) * P := by grind
   omega
 · have e1 : top < (b + 2) * d1 := by
     have := h.half;rw [Nat.add_mul]; omega
   have := (Nat.div_lt_iff_lt_mul hd).2 e1
   omega
theorem Lead.step {b d1 d2 P D0 D top u2 U0 U q r : Nat} (h : Lead b d1 d2 P D0 D top u2 U0 U) (he : q * d1 + r = top) (hc : b ≤ q ∨ r * b + u2 < q * d2) : U < q * D ∧ 0 < q := by
 have hb := h.big;rcases hc with hc | hc
 · refine ⟨Nat.lt_of_lt_of_le h.less (Nat.mul_le_mul_right _ hc), by omega⟩
 · refine ⟨?_, ?_⟩
   · have h1 : q * D = (q * d1 * b + q * d2) * P + q * D0 := by rw [h.D_eq]; grind
     have h2 : (q * d1 * b + (r * b + u2 + 1)) * P ≤ (q * d1 * b + q * d2) * P := Nat.mul_le_mul_right _ (by omega);have h3 : (q * d1 * b + (r * b + u2 + 1)) * P = (top * b + u2) * P + P := by rw [← he]; grind
     have h4 := h.U_eq;have h5 := h.U0_lt
     omega
   · rcases Nat.eq_zero_or_pos q with h0 | h0
     · subst h0; simp at hc
     · exact h0
theorem Lead.exit1 {b d1 d2 P D0 D top u2 U0 U q r : Nat} (h : Lead b d1 d2 P D0 D top u2 U0 U) (he : q * d1 + r = top) (hq : q < b) (hc : q * d2 ≤ r * b + u2) : q * D ≤ U + D := by
 have h1 : q * D = (q * d1 * b + q * d2) * P + q * D0 := by rw [h.D_eq]; grind
 have h2 : (q * d1 * b + q * d2) * P ≤ (q * d1 * b + (r * b + u2)) * P := Nat.mul_le_mul_right _ (by omega);have h3 : (q * d1 * b + (r * b + u2)) * P = (top * b + u2) * P := by rw [← he]; grind
 have h4 := h.U_eq;have h5 : q * D0 ≤ b * P := Nat.mul_le_mul (by omega) (Nat.le_of_lt h.D0_lt);have h6 : 1 * (b * P) ≤ d1 * (b * P) := Nat.mul_le_mul_right _ (by have := h.half; have := h.big; omega);rw [← Nat.mul_assoc d1] at h6;have h7 := h.low.1
 omega
theorem Lead.exit2 {b d1 d2 P D0 D top u2 U0 U q r : Nat} (h : Lead b d1 d2 P D0 D top u2 U0 U) (he : q * d1 + r = top) (hq : q ≤ b) (hr : b ≤ r) : q * D ≤ U := by
 obtain ⟨h1, h2, h3, h4⟩ := h.low;have e1 : q * D ≤ q * ((d1 * b + b) * P) := Nat.mul_le_mul_left _ (Nat.le_of_lt h2);have e2 : q * ((d1 * b + b) * P) = (q * d1 + q) * (b * P) := by grind
 have e3 : (q * d1 + q) * (b * P) ≤ top * (b * P) := Nat.mul_le_mul_right _ (by omega);rw [← Nat.mul_assoc top] at e3
 omega
/-- what the first guess may be: the quotient or one more -/
theorem guess {D U q : Nat} (h1 : U < (q + 1) * D) (h2 : q * D ≤ U + D) : (q * D ≤ U ∧ U / D = q ∧ U % D = U - q * D) ∨ (U < q * D ∧ 0 < q ∧ U / D = q - 1 ∧ U % D = U + D - q * D) := by
 have hD : 0 < D := by
  rcases Nat.eq_zero_or_pos D with h | h
  · subst h; simp at h1
  · exact h
 by_cases hle : q * D ≤ U
 · left
   rw [Nat.add_mul, Nat.one_mul] at h1;have e : U / D = q := Nat.div_eq_of_lt_le hle (by rw [Nat.add_mul, Nat.one_mul]; omega);refine ⟨hle, e, ?_⟩;have := Nat.div_add_mod U D;rw [e, Nat.mul_comm] at this
   omega
 · right
   have hq : 0 < q := by
    rcases Nat.eq_zero_or_pos q with h | h
    · subst h; simp at hle
    · exact h
   obtain ⟨p, rfl⟩ : ∃ p, q = p + 1 := ⟨q - 1, by omega⟩
   rw [Nat.add_mul, Nat.one_mul] at h2 hle;have e : U / D = p := Nat.div_eq_of_lt_le (by omega) (by rw [Nat.add_mul, Nat.one_mul]; omega);refine ⟨by rw [Nat.add_mul, Nat.one_mul]; omega, by omega, by rw [e]; rfl, ?_⟩;have := Nat.div_add_mod U D;rw [e, Nat.mul_comm] at this;rw [Nat.add_mul, Nat.one_mul]
   omega
/-- u less q times d: i words are done; c is carried, k is borrowed -/
structure SubMulR (u d u' : List Nat) (q i c k : Nat) : Prop where
 len : u'.length = u.length
 ws : Ws u'
 rest : ∀ j, i ≤ j → u'.getD j 0 = u.getD j 0
 c1 : c < BB
 k1 : k ≤ 1
 val : wv (u'.take i) + q * wv (d.take i) = wv (u.take i) + BB ^ i * (c + k)
theorem SubMulR.start (u d : List Nat) (q : Nat) (hu : Ws u) : SubMulR u d u q 0 0 0 := ⟨rfl, hu, fun _ _ => rfl, aO, by omega, by simp [bZ]⟩
theorem take_set_at (l : List Nat) (i x : Nat) (hi : i < l.length) : wv ((l.set i x).take (i + 1)) = wv (l.take i) + BB ^ i * x := by
 rw [aD, getD_set_same l i x hi, List.take_set, List.set_eq_of_length_le (by rw [List.length_take]; omega)]
theorem SubMulR.step {u d u' : List Nat} {q i c k : Nat} (h : SubMulR u d u' q i c k) (hd : Ws d) (hq : q < BB) (hi : i < d.length) (hl : d.length < u.length) (p : Nat) (hp : p = q * d.getD i 0 + c) (r k' : Nat) (hr : r < BB) (hk : k' ≤ 1)
    (he : r + p % BB + k = u.getD i 0 + BB * k') : SubMulR u d (u'.set i r) q (i + 1) (p / BB) k' ∧ p < BB * BB := by
 have h1 := hd.getD i;have h2 := mul_word q (d.getD i 0) 0 c hq h1 aO h.c1;rw [Nat.add_zero, ← hp] at h2;refine ⟨⟨by rw [List.length_set]; exact h.len, h.ws.set _ hr, fun j hj => by rw [br _ _ _ _ (by omega)]; exact h.rest j (by omega), (Nat.div_lt_iff_lt_mul aO).2 h2, hk, ?_⟩, h2⟩;rw [take_set_at _ _ _ (by rw [h.len]; omega), aD d, aD u, Nat.pow_succ, Nat.mul_add q, Nat.mul_assoc];have h3 := h.val;have h4 := mod_div p;have e1 : BB ^ i * (r + p % BB + k) = BB ^ i * (u.getD i 0 + BB * k') := by rw [he]
 have e2 : BB ^ i * (p % BB + BB * (p / BB)) = BB ^ i * (q * d.getD i 0 + c) := by rw [h4, hp]
 have e3 : q * (BB ^ i * d.getD i 0) = BB ^ i * (q * d.getD i 0) := by grind
 simp only [Nat.mul_add] at *
 omega
/-- the last word: with a borrow or not -/
theorem SubMulR.last {u d u' : List Nat} {q c k : Nat} (h : SubMulR u d u' q d.length c k) (hl : u.length = d.length + 1) :
    wv (u'.take d.length) + q * wv d + BB ^ d.length * u.getD d.length 0 = wv u + BB ^ d.length * (c + k) := by
 have h1 := h.val;rw [bd d _ (Nat.le_refl _)] at h1;have h2 := aD u d.length;rw [bd u _ (by omega)] at h2
 omega
/-- d is added back: i words are done, c is carried -/
structure BackR (u d u' : List Nat) (i c : Nat) : Prop where
 len : u'.length = u.length
 ws : Ws u'
 rest : ∀ j, i ≤ j → u'.getD j 0 = u.getD j 0
 c1 : c ≤ 1
 val : wv (u'.take i) + BB ^ i * c = wv (u.take i) + wv (d.take i)
theorem BackR.start (u d : List Nat) (hu : Ws u) : BackR u d u 0 0 := ⟨rfl, hu, fun _ _ => rfl, by omega, by simp [bZ]⟩
theorem BackR.step {u d u' : List Nat} {i c : Nat} (h : BackR u d u' i c) (hu : Ws u) (hd : Ws d) (hi : i < d.length) (hl : d.length < u.length) (s : Nat) (hs : s = u.getD i 0 + d.getD i 0 + c) : BackR u d (u'.set i (s % BB)) (i + 1) (s / BB) := by
 have h1 := hu.getD i;have h2 := hd.getD i;have h3 := h.c1;have h4 := mod_div s;refine ⟨by rw [List.length_set]; exact h.len, h.ws.set _ (Nat.mod_lt _ aO), fun j hj => by rw [br _ _ _ _ (by omega)]; exact h.rest j (by omega), ?_, ?_⟩
 · have : s / BB < 2 := (Nat.div_lt_iff_lt_mul aO).2 (by omega)
   omega
 · rw [take_set_at _ _ _ (by rw [h.len]; omega), aD d, aD u, Nat.pow_succ, Nat.mul_assoc];have h5 := h.val;have e1 : BB ^ i * (s % BB + BB * (s / BB)) = BB ^ i * (u.getD i 0 + d.getD i 0 + c) := by rw [h4, hs]
   simp only [Nat.mul_add] at *
   omega
end Nmx
namespace Nmx
def dg (d : Nat) : UInt8 := UInt8.ofNat (48 + d)
def isD (c : UInt8) : Bool := decide (48 ≤ c.toNat) && decide (c.toNat ≤ 57)
def af (n : Nat) : List UInt8 := if _h : n < 10 then [dg n] else af (n / 10) ++ [dg (n % 10)]
termination_by n
decreasing_by omega
def dv (l : List UInt8) : Nat := l.foldl (fun a c => 10 * a + (c.toNat - 48)) 0
theorem bL {c : UInt8} : isD c = true ↔ 48 ≤ c.toNat ∧ c.toNat ≤ 57 := by simp [isD]
theorem bN {n : Nat} (h : n < 10) : af n = [dg n] := by rw [af, dif_pos h]
theorem decN_big {n : Nat} (h : ¬ n < 10) : af n = af (n / 10) ++ [dg (n % 10)] := by rw [af, dif_neg h]
theorem decN_ne (n : Nat) : af n ≠ [] := by
 by_cases h : n < 10
 · rw [bN h]; simp
 · rw [decN_big h]; simp
theorem bB {d : Nat} (h : d < 10) : (dg d).toNat = 48 + d := by
 unfold dg; rw [UInt8.toNat_ofNat']; omega
theorem dg_isD {d : Nat} (h : d < 10) : isD (dg d) = true := by rw [bL, bB h]; omega
theorem dg_of {c : UInt8} (h : isD c = true) : dg (c.toNat - 48) = c := by
 rw [bL] at h;apply UInt8.toNat_inj.1;rw [bB (by omega)]; omega
theorem ay (n : Nat) : (af n).all isD = true := by
 induction n using Nat.strongRecOn with
 | _ n ih =>
   by_cases h : n < 10
   · rw [bN h]; simp only [List.all_cons, List.all_nil, Bool.and_true]; exact dg_isD h
   · rw [decN_big h, List.all_append, ih (n / 10) (by omega)];simp only [List.all_cons, List.all_nil, Bool.and_true, Bool.true_and];exact dg_isD (Nat.mod_lt _ (by omega))
theorem decN_head (n : Nat) (h : n ≠ 0) : (af n).headD 0 ≠ 48 := by
 induction n using Nat.strongRecOn with
 | _ n ih =>
   by_cases h10 : n < 10
   · rw [bN h10, List.headD_cons];intro e;have := congrArg UInt8.toNat e;rw [bB h10] at this;have h48 : (48 : UInt8).toNat = 48 := rfl
     omega
   · have := ih (n / 10) (by omega) (by omega);rw [decN_big h10]
     match hd : af (n / 10), decN_ne (n / 10) with
     | c :: r, _ => rw [hd] at this; exact this
theorem snocRec {α : Type} {P : List α → Prop} (h0 : P []) (hs : ∀ l a, P l → P (l ++ [a])) (l : List α) : P l := by
 have h : ∀ l : List α, P l.reverse := by
  intro l
  induction l with
  | nil => exact h0
  | cons a r ih => rw [List.reverse_cons]; exact hs _ _ ih
 have := h l.reverse;rwa [List.reverse_reverse] at this
theorem dv_nil : dv [] = 0 := rfl
theorem dv_snoc (l : List UInt8) (c : UInt8) : dv (l ++ [c]) = 10 * dv l + (c.toNat - 48) := by simp [dv, List.foldl_append]
theorem dv_one (c : UInt8) : dv [c] = c.toNat - 48 := by simp [dv]
theorem dv_append (a b : List UInt8) : dv (a ++ b) = dv a * 10 ^ b.length + dv b := by
 induction b using snocRec with
 | h0 => simp [dv_nil]
 | hs b c ih =>
   rw [← List.append_assoc, dv_snoc, ih, dv_snoc, List.length_append, List.length_singleton, Nat.pow_succ];generalize 10 ^ b.length = p
   grind
theorem dv_cons (c : UInt8) (l : List UInt8) : dv (c :: l) = (c.toNat - 48) * 10 ^ l.length + dv l := by
 have := dv_append [c] l;rw [dv_one] at this; exact this
theorem dv_lt (l : List UInt8) (h : l.all isD = true) : dv l < 10 ^ l.length := by
 induction l with
 | nil => simp [dv_nil]
 | cons c l ih =>
   rw [List.all_cons, Bool.and_eq_true] at h;have h1 := ih h.2;have h2 := bL.1 h.1;rw [dv_cons, List.length_cons, Nat.pow_succ];have : (c.toNat - 48) * 10 ^ l.length ≤ 9 * 10 ^ l.length := Nat.mul_le_mul_right _ (by omega)
   omega
theorem bu (n : Nat) : dv (af n) = n := by
 induction n using Nat.strongRecOn with
 | _ n ih =>
   by_cases h : n < 10
   · rw [bN h, dv_one, bB h]; omega
   · rw [decN_big h, dv_snoc, ih (n / 10) (by omega), bB (Nat.mod_lt _ (by omega))]; omega
theorem decN_inj {a b : Nat} (h : af a = af b) : a = b := by rw [← bu a, h, bu]
/-- digits without leading zeros -/
def Canon (l : List UInt8) : Prop := l.all isD = true ∧ l ≠ [] ∧ (l = [48] ∨ l.headD 0 ≠ 48)
theorem decN_canon (n : Nat) : Canon (af n) := by
 refine ⟨ay n, decN_ne n, ?_⟩
 by_cases h : n = 0
 · subst h; left; rw [bN (by omega)]; rfl
 · exact .inr (decN_head n h)
theorem dv_pos {l : List UInt8} (h : l.all isD = true) (h0 : l ≠ []) (h1 : l.headD 0 ≠ 48) : 10 ^ (l.length - 1) ≤ dv l := by
 match l, h0 with
 | c :: r, _ =>
   rw [List.all_cons, Bool.and_eq_true] at h;have h2 := bL.1 h.1;have h3 : c.toNat ≠ 48 := fun e => h1 (UInt8.toNat_inj.1 e)
   rw [dv_cons, List.length_cons, Nat.add_sub_cancel];have : 1 * 10 ^ r.length ≤ (c.toNat - 48) * 10 ^ r.length := Nat.mul_le_mul_right _ (by omega)
   omega
theorem canon_eq {l : List UInt8} (h : Canon l) : af (dv l) = l := by
 induction l using snocRec with
 | h0 => exact absurd rfl h.2.1
 | hs i c ih =>
   obtain ⟨h1, _, h3⟩ := h;rw [List.all_append, Bool.and_eq_true] at h1;have hc : isD c = true := by simpa using h1.2
   have hc' := bL.1 hc;rw [dv_snoc]
   by_cases hi : i = []
   · subst hi;rw [dv_nil, bN (by omega), show 10 * 0 + (c.toNat - 48) = c.toNat - 48 by omega, dg_of hc]; rfl
   · have hh : i.headD 0 ≠ 48 := by
       rcases h3 with h3 | h3
       · exfalso
         have := congrArg List.length h3
         simp at this
         exact hi this
       · match i, hi with
         | a :: r, _ => exact h3
     have hp := dv_pos h1.1 hi hh;have hp1 : 0 < 10 ^ (i.length - 1) := Nat.pow_pos (by omega);rw [decN_big (by omega), show (10 * dv i + (c.toNat - 48)) / 10 = dv i by omega, ih ⟨h1.1, hi, .inr hh⟩, show (10 * dv i + (c.toNat - 48)) % 10 = c.toNat - 48 by omega, dg_of hc]
theorem decN_len (n : Nat) (h : n ≠ 0) : 10 ^ ((af n).length - 1) ≤ n ∧ n < 10 ^ (af n).length := by
 have h1 := dv_pos (ay n) (decN_ne n) (decN_head n h);have h2 := dv_lt _ (ay n);rw [bu] at h1 h2;exact ⟨h1, h2⟩
theorem decN_len_le {n k : Nat} (hk : 0 < k) (h : n < 10 ^ k) : (af n).length ≤ k := by
 by_cases h0 : n = 0
 · subst h0; rw [bN (by omega)]; simp; omega
 · have h1 := (decN_len n h0).1;have h2 : 10 ^ ((af n).length - 1) < 10 ^ k := by omega
   have := (Nat.pow_lt_pow_iff_right (by omega : 1 < 10)).1 h2
   omega
theorem decN_len_pos (n : Nat) : 0 < (af n).length := List.length_pos_iff.2 (decN_ne n)
/-- without leading zeros -/
def bE : List UInt8 → List UInt8
 | [] => []
 | [c] => [c]
 | c :: d :: r => if c = 48 then bE (d :: r) else c :: d :: r
theorem trimF_dv (l : List UInt8) : dv (bE l) = dv l := by
 induction l with
 | nil => rfl
 | cons c r ih =>
   match r with
   | [] => rfl
   | d :: r =>
     unfold bE
     split
     · rename_i h; subst h; rw [ih, dv_cons 48]; simp
     · rfl
theorem trimF_canon (l : List UInt8) (h : l.all isD = true) (h0 : l ≠ []) : Canon (bE l) := by
 induction l with
 | nil => exact absurd rfl h0
 | cons c r ih =>
   match r with
   | [] =>
     unfold bE;refine ⟨h, h0, ?_⟩
     by_cases hc : c = 48
     · subst hc; exact .inl rfl
     · exact .inr hc
   | d :: r =>
     unfold bE
     split
     · rw [List.all_cons, Bool.and_eq_true] at h; exact ih h.2 (by simp)
     · rename_i hc; exact ⟨h, h0, .inr hc⟩
theorem trimF_decN (l : List UInt8) (h : l.all isD = true) (h0 : l ≠ []) : bE l = af (dv l) := by
 rw [← canon_eq (trimF_canon l h h0), trimF_dv]
theorem trimF_canon_eq (l : List UInt8) (h : Canon l) : bE l = l := by rw [trimF_decN l h.1 h.2.1, canon_eq h]
/-- the value of the last i digits -/
def lo (l : List UInt8) (i : Nat) : Nat := dv (l.drop (l.length - i))
/-- the digit that stands i from the end -/
def di (l : List UInt8) (i : Nat) : Nat := if h : i < l.length then (l[l.length - 1 - i]'(by omega)).toNat - 48 else 0
theorem lo_zero (l : List UInt8) : lo l 0 = 0 := by simp [lo, dv_nil]
theorem lo_all (l : List UInt8) (i : Nat) (h : l.length ≤ i) : lo l i = dv l := by
 unfold lo; rw [show l.length - i = 0 by omega]; rfl
theorem lo_succ (l : List UInt8) (i : Nat) : lo l (i + 1) = di l i * 10 ^ i + lo l i := by
 unfold lo di
 by_cases h : i < l.length
 · rw [dif_pos h, show l.length - i = l.length - (i + 1) + 1 by omega, List.drop_eq_getElem_cons (by omega), dv_cons];rw [List.length_drop, show l.length - (l.length - (i + 1) + 1) = i by omega];have e : l.length - (i + 1) = l.length - 1 - i := by omega
   simp only [e]
 · rw [dif_neg h, show l.length - (i + 1) = 0 by omega, show l.length - i = 0 by omega]; simp
theorem di_lt (l : List UInt8) (h : l.all isD = true) (i : Nat) : di l i < 10 := by
 unfold di
 split
 · rename_i hi
   have := bL.1 (List.all_eq_true.1 h _ (List.getElem_mem (by omega : l.length - 1 - i < l.length)))
   omega
 · omega
theorem di_at (l : List UInt8) (i : Nat) (hi : i < l.length) : di l i = (l[l.length - 1 - i]'(by omega)).toNat - 48 := by unfold di; rw [dif_pos hi]
theorem di_out (l : List UInt8) (i : Nat) (hi : ¬ i < l.length) : di l i = 0 := by unfold di; rw [dif_neg hi]
/-- same number of digits: the order of texts is the order of numbers -/
theorem lex_lt (a b : List UInt8) (hl : a.length = b.length) (ha : a.all isD = true) (hb : b.all isD = true) : a < b ↔ dv a < dv b := by
 induction a generalizing b with
 | nil =>
   match b, hl with
   | [], _ => simp
 | cons c r ih =>
   match b, hl with
   | d :: s, hl =>
     rw [List.all_cons, Bool.and_eq_true] at ha hb;rw [List.length_cons, List.length_cons] at hl;have h1 := bL.1 ha.1;have h2 := bL.1 hb.1;have h3 := dv_lt r ha.2;have h4 := dv_lt s hb.2;have hl' : r.length = s.length := by omega
     have hih := ih s hl' ha.2 hb.2;rw [List.cons_lt_cons_iff, dv_cons, dv_cons, hih, hl'];rw [hl'] at h3;generalize 10 ^ s.length = p at *;rw [UInt8.lt_iff_toNat_lt]
     constructor
     · rintro (h | ⟨rfl, h⟩)
       · have : (c.toNat - 48 + 1) * p ≤ (d.toNat - 48) * p := Nat.mul_le_mul_right _ (by omega);rw [Nat.add_mul] at this
         omega
       · omega
     · intro h
       by_cases e : c.toNat = d.toNat
       · right
         have : c = d := UInt8.toNat_inj.1 e;subst this;exact ⟨rfl, by omega⟩
       · left
         by_cases g : c.toNat < d.toNat
         · exact g
         · exfalso
           have : (d.toNat - 48 + 1) * p ≤ (c.toNat - 48) * p := Nat.mul_le_mul_right _ (by omega);rw [Nat.add_mul] at this
           omega
theorem len_lt {m n : Nat} (h : (af m).length < (af n).length) : m < n := by
 have h1 := dv_lt _ (ay m);rw [bu] at h1
 by_cases hn : n = 0
 · subst hn;have := decN_len_pos m;rw [bN (n := 0) (by omega)] at h;simp only [List.length_singleton] at h
   omega
 · have h2 := (decN_len n hn).1;have h3 : 10 ^ (af m).length ≤ 10 ^ ((af n).length - 1) := Nat.pow_le_pow_right (by omega) (by omega)
   omega
/-- how the reference compares: by length, then as texts -/
theorem mag_lt (m n : Nat) : (decide ((af m).length < (af n).length) || (decide ((af m).length = (af n).length) && decide (af m < af n))) = decide (m < n) := by
 rw [Bool.eq_iff_iff];simp only [Bool.or_eq_true, Bool.and_eq_true, decide_eq_true_eq]
 have hlex : (af m).length = (af n).length → (af m < af n ↔ m < n) := fun hl => by
  have := lex_lt _ _ hl (ay m) (ay n);rwa [bu, bu] at this
 constructor
 · rintro (h | ⟨h1, h2⟩)
   · exact len_lt h
   · exact (hlex h1).1 h2
 · intro h
   by_cases h1 : (af m).length < (af n).length
   · exact .inl h1
   · by_cases h2 : (af m).length = (af n).length
     · exact .inr ⟨h2, (hlex h2).2 h⟩
     · have := len_lt (m := n) (n := m) (by omega)
       omega
end Nmx
namespace Nmx
def bh (z : Int) : List UInt8 := if z < 0 then 45 :: af z.natAbs else af z.natAbs
def aK (q : Rat) : List UInt8 := bh q.num ++ (if q.den = 1 then [] else 47 :: af q.den)
/-- is there a minus ahead; what stands aI it -/
def sgB (l : List UInt8) : Bool := l.head? == some 45
def bw (l : List UInt8) : List UInt8 := if sgB l then l.tail else l
def sgn (b : Bool) (n : Nat) : Int := if b then -(n : Int) else n
/-- an integer, leading zeros and '-0' permitted -/
def intF (l : List UInt8) : Option Int := if bw l = [] ∨ (bw l).all isD = false then none else some (sgn (sgB l) (dv (bw l)))
/-- an integer in its canonical form -/
def aE (l : List UInt8) : Option Int := if bw l = [] ∨ ((bw l).headD 0 = 48 ∧ l ≠ [48]) then none else intF l
theorem decN_cons (n : Nat) : ∃ c r, af n = c :: r ∧ isD c = true := by
 have h1 := decN_ne n;have h2 := ay n
 match hd : af n, h1 with
 | c :: r, _ => rw [hd, List.all_cons, Bool.and_eq_true] at h2; exact ⟨c, r, rfl, h2.1⟩
theorem sgB_decN (n : Nat) : sgB (af n) = false := by
 obtain ⟨c, r, h1, h2⟩ := decN_cons n;rw [h1];unfold sgB;have h3 := bL.1 h2;simp only [List.head?_cons, beq_eq_false_iff_ne, ne_eq, Option.some.injEq];intro e; subst e;have : (45 : UInt8).toNat = 45 := rfl
 omega
theorem sgB_decI (z : Int) : sgB (bh z) = decide (z < 0) := by
 unfold bh
 split
 · rename_i h; simp [sgB, h]
 · rename_i h; rw [sgB_decN]; simp [h]
theorem body_decI (z : Int) : bw (bh z) = af z.natAbs := by
 unfold bw;rw [sgB_decI];unfold bh
 split
 · rename_i h; rw [if_pos (by simpa using h)]; rfl
 · rename_i h; rw [if_neg (by simpa using h)]
theorem decN_zero : af 0 = [48] := by rw [bN (by omega)]; rfl
theorem decI_zero : bh 0 = [48] := decN_zero
theorem intF_decI (z : Int) : intF (bh z) = some z := by
 unfold intF;rw [body_decI, if_neg (by rintro (h | h); exact decN_ne _ h; rw [ay] at h; cases h), bu, sgB_decI];unfold sgn
 congr 1
 by_cases h : z < 0
 · rw [if_pos (by simpa using h)]; omega
 · rw [if_neg (by simpa using h)]; omega
theorem canonF_decI (z : Int) : aE (bh z) = some z := by
 unfold aE;rw [if_neg, intF_decI];rw [body_decI];rintro (h | ⟨h1, h2⟩)
 · exact decN_ne _ h
 · by_cases h0 : z.natAbs = 0
   · apply h2;have : z = 0 := by omega
     subst this; exact decI_zero
   · exact decN_head _ h0 h1
theorem decI_nat (n : Nat) : bh (n : Int) = af n := by unfold bh; rw [if_neg (by omega), Int.natAbs_natCast]
theorem decI_neg (n : Nat) (h : 0 < n) : bh (-(n : Int)) = 45 :: af n := by unfold bh; rw [if_pos (by omega), Int.natAbs_neg, Int.natAbs_natCast]
theorem canonF_some {l : List UInt8} {z : Int} (h : aE l = some z) : bh z = l := by
 unfold aE at h
 split at h
 · cases h
 · rename_i hn
   unfold intF at h
   split at h
   · cases h
   · rename_i hi
     cases h
     have hb : bw l ≠ [] := fun e => hi (.inl e)
     have hd : (bw l).all isD = true := by
      cases e : (bw l).all isD with
      | true => rfl
      | false => exact absurd (.inr e) hi
     by_cases h48 : (bw l).headD 0 = 48
     · have hl : l = [48] := Decidable.byContradiction fun e => hn (.inr ⟨h48, e⟩)
       subst hl; decide +kernel
     · have hc := canon_eq ⟨hd, hb, .inr h48⟩;have hp := dv_pos hd hb h48;have hp1 : 0 < 10 ^ ((bw l).length - 1) := Nat.pow_pos (by omega);cases hs : sgB l with
       | true =>
         show bh (-(dv (bw l) : Int)) = l;rw [decI_neg _ (by omega), hc];unfold bw; rw [hs, if_pos rfl]
         match l, hs with
         | c :: r, hs => simp [sgB] at hs; subst hs; rfl
         | [], hs => cases hs
       | false =>
         show bh (dv (bw l) : Int) = l;rw [decI_nat, hc];unfold bw; rw [hs]; rfl
theorem canonF_iff {l : List UInt8} {z : Int} : aE l = some z ↔ bh z = l := ⟨canonF_some, fun h => by rw [← h, canonF_decI]⟩
/-- what stands before the first slash, and what stands aI it -/
def upto (l : List UInt8) : List UInt8 := l.takeWhile (· != 47)
def aI (l : List UInt8) : List UInt8 := (l.dropWhile (· != 47)).drop 1
def ap (l : List UInt8) : Option Rat :=
 if l.contains 47 = false then Option.map (fun z : Int => (z : Rat)) (aE l)
 else match aE (upto l), aE (aI l) with
  | some n, some d => if h : 1 < d ∧ n ≠ 0 ∧ n.natAbs.gcd d.natAbs = 1 then some ⟨n, d.natAbs, by omega, h.2.2⟩ else none
  | _, _ => none
theorem decN_no (n : Nat) (c : UInt8) (hc : isD c = false) : ∀ x ∈ af n, (x != c) = true := by
 intro x hx;have := List.all_eq_true.1 (ay n) x hx;rw [bne_iff_ne];intro e; subst e; rw [hc] at this; cases this
theorem decI_no47 (z : Int) : ∀ x ∈ bh z, (x != 47) = true := by
 unfold bh;intro x hx
 split at hx
 · rw [List.mem_cons] at hx;rcases hx with rfl | hx
   · rfl
   · exact decN_no _ 47 (by decide) x hx
 · exact decN_no _ 47 (by decide) x hx
theorem contains_no {l : List UInt8} (h : ∀ x ∈ l, (x != 47) = true) : l.contains 47 = false := by
 rw [Bool.eq_false_iff];intro hc;exact absurd (h 47 (by simpa using hc)) (by decide)
theorem cut_at {a b : List UInt8} (h : ∀ x ∈ a, (x != 47) = true) : upto (a ++ 47 :: b) = a ∧ aI (a ++ 47 :: b) = b ∧ (a ++ 47 :: b).contains 47 = true := by
 refine ⟨?_, ?_, by simp⟩
 · unfold upto; rw [List.takeWhile_append_of_pos h, List.takeWhile_cons]; simp
 · unfold aI; rw [List.dropWhile_append_of_pos h, List.dropWhile_cons]; simp
theorem cut_back {l : List UInt8} (h : l.contains 47 = true) : l = upto l ++ 47 :: aI l := by
 induction l with
 | nil => simp at h
 | cons c r ih =>
   by_cases hc : c = 47
   · subst hc; rfl
   · have hr : r.contains 47 = true := by
       rw [List.contains_cons] at h;rcases (Bool.or_eq_true _ _).mp h with h | h
       · exact absurd (by simpa using h) (fun e : 47 = c => hc e.symm)
       · exact h
     have hb : (c != 47) = true := by simpa using hc
     unfold upto aI;rw [List.takeWhile_cons, if_pos hb, List.dropWhile_cons, if_pos hb];exact congrArg (c :: ·) (ih hr)
theorem ratF_text (q : Rat) : ap (aK q) = some q := by
 unfold aK ap
 by_cases h : q.den = 1
 · rw [if_pos h, List.append_nil, if_pos (contains_no (decI_no47 _)), canonF_decI];simp only [Option.map_some, Option.some.injEq];exact Rat.ext rfl h.symm
 · rw [if_neg h];obtain ⟨h1, h2, h3⟩ := cut_at (b := af q.den) (decI_no47 q.num);rw [if_neg (by rw [h3]; simp), h1, h2, canonF_decI]
   have h4 : aE (af q.den) = some (q.den : Int) := by
    rw [canonF_iff]; unfold bh; rw [if_neg (by omega), Int.natAbs_natCast]
   rw [h4];have hz := q.den_nz;have hred := q.reduced
   have hnum : q.num ≠ 0 := by
    intro e;rw [e] at hred
    simp [Nat.Coprime] at hred
    exact h hred
   simp only;rw [dif_pos ⟨by omega, hnum, by rw [Int.natAbs_natCast]; exact hred⟩]
   congr 1
theorem textQ_int (z : Int) : aK (z : Rat) = bh z := by unfold aK; rw [if_pos (Rat.den_intCast z), List.append_nil, Rat.num_intCast]
theorem ratF_some {l : List UInt8} {q : Rat} (h : ap l = some q) : aK q = l := by
 unfold ap at h
 split at h
 · rename_i hc
   obtain ⟨z, hz, rfl⟩ := Option.map_eq_some_iff.1 h;rw [textQ_int];exact canonF_some hz
 · rename_i hc
   have hc' : l.contains 47 = true := by simpa using hc
   split at h
   · rename_i n d hn hd
     split at h
     · rename_i hh
       cases h
       have h1 := canonF_some hn;have h2 := canonF_some hd;unfold bh at h2;rw [if_neg (by omega)] at h2;unfold aK;simp only;rw [if_neg (by omega), h1, h2];exact (cut_back hc').symm
     · cases h
   · cases h
theorem textQ_inj {p q : Rat} (h : aK p = aK q) : p = q := by
 have := ratF_text p;rw [h, ratF_text] at this;exact (Option.some.inj this).symm
theorem textQ_ne (q : Rat) : aK q ≠ [] := by
 unfold aK bh;have := decN_ne q.num.natAbs
 split <;> simp [this]
/-- the text of the answer, if there is one -/
def txt : Option Rat → List UInt8
 | some q => aK q
 | none => []
def on1 (f : Rat → Option Rat) (a : List UInt8) : List UInt8 := txt ((ap a).bind f)
def on2 (f : Rat → Rat → Option Rat) (a b : List UInt8) : List UInt8 := txt ((ap a).bind fun x => (ap b).bind fun y => f x y)
theorem ratF_nil : ap [] = none := by decide +kernel
end Nmx
namespace Nmx
/-- a shift to the left by which a word is multiplied by S: i words are done, c is carried -/
structure ShlR (a w : List Nat) (S i c : Nat) : Prop where
 len : w.length = a.length + 1
 ws : Ws w
 zero : ∀ k, i ≤ k → w.getD k 0 = 0
 c1 : c < S
 val : wv w + BB ^ i * c = wv (a.take i) * S
theorem ShlR.start (a : List Nat) (S : Nat) (hS : 0 < S) : ShlR a (List.replicate (a.length + 1) 0) S 0 0 :=
 ⟨by simp, Ws.zeros _, fun k _ => by rw [List.getD_eq_getElem?_getD, List.getElem?_replicate]; split <;> rfl, hS, by rw [wv_zeros]; simp [bZ]⟩
theorem shl_word {x S T c : Nat} (hx : x < BB) (hST : S * T = BB) (hc : c < S) : x * S % BB + c < BB ∧ x * S / BB < S ∧ x * S % BB = x % T * S ∧ x * S < BB * BB := by
 have hS : 0 < S := by omega
 have hT : 0 < T := by
  rcases Nat.eq_zero_or_pos T with h | h
  · subst h; have := aO; omega
  · exact h
 have e1 : x * S % BB = x % T * S := by rw [← hST, Nat.mul_comm S T, Nat.mul_mod_mul_right]
 have e2 : (x % T + 1) * S ≤ T * S := Nat.mul_le_mul_right _ (Nat.mod_lt _ hT);rw [Nat.add_mul, Nat.one_mul, Nat.mul_comm T S, hST] at e2;have e3 : x * S < S * BB := by rw [Nat.mul_comm]; exact Nat.mul_lt_mul_of_pos_left hx hS
 have e4 : S * BB ≤ BB * BB := Nat.mul_le_mul_right _ (by rw [← hST]; exact Nat.le_mul_of_pos_right _ hT);exact ⟨by rw [e1]; omega, (Nat.div_lt_iff_lt_mul aO).2 e3, e1, by omega⟩
theorem ShlR.step {a w : List Nat} {S T i c : Nat} (h : ShlR a w S i c) (hST : S * T = BB) (ha : Ws a) (hi : i < a.length) : ShlR a (w.set i (a.getD i 0 * S % BB + c)) S (i + 1) (a.getD i 0 * S / BB) := by
 obtain ⟨h1, h2, _, _⟩ := shl_word (ha.getD i) hST h.c1;refine ⟨by rw [List.length_set]; exact h.len, h.ws.set i h1, fun k hk => by rw [br _ _ _ _ (by omega)]; exact h.zero k (by omega), h2, ?_⟩;rw [wv_set0 w i _ (by rw [h.len]; omega) (h.zero i (Nat.le_refl _)), aD, Nat.pow_succ, Nat.mul_assoc];have h3 := h.val;have h4 := mod_div (a.getD i 0 * S);have e1 : BB ^ i * (a.getD i 0 * S % BB + BB * (a.getD i 0 * S / BB)) = BB ^ i * (a.getD i 0 * S) := by rw [h4]
 rw [Nat.add_mul, Nat.mul_assoc (BB ^ i) (a.getD i 0)];simp only [Nat.mul_add] at *
 omega
theorem ShlR.done {a w : List Nat} {S T c : Nat} (h : ShlR a w S a.length c) (hST : S * T = BB) : wv (w.set a.length c) = wv a * S ∧ Ws (w.set a.length c) ∧ (w.set a.length c).length = a.length + 1 := by
 have h1 := h.val;rw [bd a _ (Nat.le_refl _)] at h1;have hc := h.c1
 have hT : 0 < T := by
  rcases Nat.eq_zero_or_pos T with h | h
  · subst h; have := aO; omega
  · exact h
 have : S ≤ BB := by rw [← hST]; exact Nat.le_mul_of_pos_right _ hT
 exact ⟨by rw [wv_set0 w _ _ (by rw [h.len]; omega) (h.zero _ (Nat.le_refl _)), h1], h.ws.set _ (by omega), by rw [List.length_set, h.len]⟩
/-- a shift to the right: i words are done -/
structure ShrR (a w : List Nat) (S i : Nat) : Prop where
 len : w.length = a.length
 ws : Ws w
 zero : ∀ k, i ≤ k → w.getD k 0 = 0
 val : wv w * S + a.getD 0 0 % S = wv (a.take i) + BB ^ i * (a.getD i 0 % S)
theorem ShrR.start (a : List Nat) (S : Nat) : ShrR a (List.replicate a.length 0) S 0 :=
 ⟨by simp, Ws.zeros _, fun k _ => by rw [List.getD_eq_getElem?_getD, List.getElem?_replicate]; split <;> rfl, by rw [wv_zeros]; simp [bZ]⟩
theorem shr_word {x y S T : Nat} (hx : x < BB) (hST : S * T = BB) (hS : 0 < S) : (x + BB * y) / S % BB < BB ∧ (x + BB * y) / S % BB = x / S + T * (y % S) := by
 refine ⟨Nat.mod_lt _ aO, ?_⟩;have e1 : (x + BB * y) / S = x / S + T * y := by rw [← hST, Nat.mul_assoc, Nat.add_mul_div_left _ _ hS]
 have hT : 0 < T := by
  rcases Nat.eq_zero_or_pos T with h | h
  · subst h; have := aO; omega
  · exact h
 have e2 : x / S < T := (Nat.div_lt_iff_lt_mul hS).2 (by rw [Nat.mul_comm, hST]; exact hx)
 have e3 : T * (y % S) + T ≤ BB := by
  rw [← hST, Nat.mul_comm S T, ← Nat.mul_succ]; exact Nat.mul_le_mul_left _ (Nat.mod_lt _ hS)
 have e4 : T * y = T * (y % S) + BB * (y / S) := by
  rw [← hST, Nat.mul_comm S T, Nat.mul_assoc, ← Nat.mul_add, Nat.mod_add_div]
 rw [e1, e4, ← Nat.add_assoc, Nat.add_mul_mod_self_left, Nat.mod_eq_of_lt (by omega)]
theorem ShrR.step {a w : List Nat} {S T i : Nat} (h : ShrR a w S i) (hST : S * T = BB) (hS : 0 < S) (ha : Ws a) (hi : i < a.length) (t : Nat) (ht : t = a.getD i 0 + BB * a.getD (i + 1) 0) : ShrR a (w.set i (t / S % BB)) S (i + 1) := by
 obtain ⟨h1, h2⟩ := shr_word (y := a.getD (i + 1) 0) (ha.getD i) hST hS;rw [← ht] at h1 h2;refine ⟨by rw [List.length_set]; exact h.len, h.ws.set i h1, fun k hk => by rw [br _ _ _ _ (by omega)]; exact h.zero k (by omega), ?_⟩;rw [wv_set0 w i _ (by rw [h.len]; omega) (h.zero i (Nat.le_refl _)), aD, h2, Nat.pow_succ, Nat.mul_assoc];have h3 := h.val;have h4 := Nat.mod_add_div (a.getD i 0) S;have e1 : BB ^ i * (a.getD i 0 % S + S * (a.getD i 0 / S)) = BB ^ i * a.getD i 0 := by rw [h4]
 have e2 : BB ^ i * (a.getD i 0 / S + T * (a.getD (i + 1) 0 % S)) * S = BB ^ i * (S * (a.getD i 0 / S)) + BB ^ i * (BB * (a.getD (i + 1) 0 % S)) := by rw [← hST]; grind
 rw [Nat.add_mul, e2];rw [Nat.mul_add] at e1
 omega
theorem ShrR.done {a w : List Nat} {S : Nat} (h : ShrR a w S a.length) (r : Nat) (hr : wv a = r * S) (hS : 0 < S) : wv w = r := by
 have h1 := h.val;rw [bd a _ (Nat.le_refl _), List.getD_eq_getElem?_getD (i := a.length), List.getElem?_eq_none (Nat.le_refl _)] at h1;simp only [Option.getD_none, Nat.zero_mod, Nat.mul_zero, Nat.add_zero] at h1;rw [hr] at h1;have h2 := congrArg (· % S) h1;simp only [Nat.mul_add_mod_self_right, Nat.mul_mod_left, Nat.mod_mod] at h2;rw [h2, Nat.add_zero] at h1;exact Nat.eq_of_mul_eq_mul_right hS h1
/-- times m, and v more: i words are done, c is carried -/
structure MacR (w w' : List Nat) (m v i c : Nat) : Prop where
 len : w'.length = w.length
 ws : Ws w'
 rest : ∀ j, i ≤ j → w'.getD j 0 = w.getD j 0
 c1 : c < BB
 val : wv (w'.take i) + BB ^ i * c = wv (w.take i) * m + v
theorem MacR.start (w : List Nat) (m v : Nat) (hw : Ws w) (hv : v < BB) : MacR w w m v 0 v := ⟨rfl, hw, fun _ _ => rfl, hv, by simp [bZ]⟩
theorem MacR.step {w w' : List Nat} {m v i c : Nat} (h : MacR w w' m v i c) (hw : Ws w) (hm : m < BB) (hi : i < w.length) (t : Nat) (ht : t = w.getD i 0 * m + c) : MacR w (w'.set i (t % BB)) m v (i + 1) (t / BB) ∧ t < BB * BB := by
 have h2 := mul_word (w.getD i 0) m 0 c (hw.getD i) hm aO h.c1;rw [Nat.add_zero, ← ht] at h2;refine ⟨⟨by rw [List.length_set]; exact h.len, h.ws.set _ (Nat.mod_lt _ aO), fun j hj => by rw [br _ _ _ _ (by omega)]; exact h.rest j (by omega), (Nat.div_lt_iff_lt_mul aO).2 h2, ?_⟩, h2⟩;rw [take_set_at _ _ _ (by rw [h.len]; omega), aD w, Nat.pow_succ, Nat.mul_assoc];have h3 := h.val;have h4 := mod_div t;have e1 : BB ^ i * (t % BB + BB * (t / BB)) = BB ^ i * (w.getD i 0 * m + c) := by rw [h4, ht]
 have e2 : BB ^ i * w.getD i 0 * m = BB ^ i * (w.getD i 0 * m) := Nat.mul_assoc _ _ _;rw [Nat.add_mul, e2];simp only [Nat.mul_add] at *
 omega
theorem MacR.done {w w' : List Nat} {m v c : Nat} (h : MacR w w' m v w.length c) : wv (w' ++ [c]) = wv w * m + v ∧ (c = 0 → wv w' = wv w * m + v) ∧ Ws (w' ++ [c]) := by
 have h1 := h.val;rw [bd w _ (Nat.le_refl _), bd w' _ (by rw [h.len]; exact Nat.le_refl _)] at h1;refine ⟨by rw [wv_snoc, h.len]; exact h1, fun hc => by subst hc; omega, h.ws.append fun x hx => by rw [List.mem_singleton] at hx; rw [hx]; exact h.c1⟩
/-- nine digits -/
def pad9 (n : Nat) : List UInt8 := List.replicate (9 - (af n).length) 48 ++ af n
theorem rep_dv (k : Nat) : dv (List.replicate k 48) = 0 := by
 induction k with
 | zero => rfl
 | succ k ih => rw [List.replicate_succ, dv_cons, ih]; simp
theorem pad9_all (n : Nat) : (pad9 n).all isD = true := by
 unfold pad9;rw [List.all_append, ay, Bool.and_true, List.all_eq_true];intro x hx;rw [(List.mem_replicate.1 hx).2]; decide
theorem pad9_dv (n : Nat) : dv (pad9 n) = n := by unfold pad9; rw [dv_append, rep_dv, bu]; simp
theorem pad9_len (n : Nat) (h : n < 1000000000) : (pad9 n).length = 9 := by
 have := decN_len_le (n := n) (k := 9) (by omega) (by simpa using h);unfold pad9;rw [List.length_append, List.length_replicate]; omega
theorem decN_chunk (hi lo : Nat) (h : 0 < hi) (hl : lo < 1000000000) : af (hi * 1000000000 + lo) = af hi ++ pad9 lo := by
 have e : dv (af hi ++ pad9 lo) = hi * 1000000000 + lo := by rw [dv_append, bu, pad9_dv, pad9_len lo hl]
 rw [← e];refine canon_eq ⟨by rw [List.all_append, ay, pad9_all]; rfl, by simp [decN_ne], .inr ?_⟩;have h1 := decN_head hi (by omega)
 match hd : af hi, decN_ne hi with
 | c :: r, _ => rw [hd] at h1; exact h1
/-- chunks of nine digits, the least significant one first -/
def chunksV : List Nat → Nat
 | [] => 0
 | x :: l => x + 1000000000 * chunksV l
theorem chunksV_snoc (l : List Nat) (x : Nat) : chunksV (l ++ [x]) = chunksV l + 1000000000 ^ l.length * x := by
 induction l with
 | nil => simp [chunksV]
 | cons y r ih => simp only [List.cons_append, chunksV, ih, List.length_cons, Nat.pow_succ]; grind
/-- what 'String' writes of the chunks from i on, the top one first -/
def bW (l : List Nat) : List UInt8 := match l.reverse with
 | [] => []
 | x :: r => af x ++ (r.map pad9).flatten
theorem chunksT_snoc (x : Nat) (l : List Nat) (hl : l ≠ []) : bW (x :: l) = bW l ++ pad9 x := by
 unfold bW;rw [List.reverse_cons]
 match hr : l.reverse, (by simpa using hl : l.reverse ≠ []) with
 | y :: r, _ => simp
theorem chunksT_eq (l : List Nat) (hl : l ≠ []) (h : ∀ x ∈ l, x < 1000000000) (h0 : l.getLastD 0 ≠ 0) : bW l = af (chunksV l) ∧ 0 < chunksV l := by
 induction l with
 | nil => exact absurd rfl hl
 | cons x r ih =>
   by_cases hr : r = []
   · subst hr;simp only [bW, chunksV, List.reverse_cons, List.reverse_nil, List.nil_append, List.map_nil, List.flatten_nil, List.append_nil, Nat.mul_zero, Nat.add_zero]
     simp at h0
     exact ⟨trivial, by omega⟩
   · obtain ⟨h1, h2⟩ := ih hr (fun y hy => h y (by simp [hy])) (by match r, hr with | y :: s, _ => simpa using h0);rw [chunksT_snoc x r hr, h1];refine ⟨?_, by simp only [chunksV]; omega⟩;have := decN_chunk (chunksV r) x h2 (h x (by simp));simp only [chunksV];rw [← this]; congr 1; omega
end Nmx
namespace Nmx
theorem lo_set (q : List UInt8) (n i : Nat) (c : UInt8) (hq : q.length = n) (hi : i < n) : lo (q.set (n - 1 - i) c) (i + 1) = (c.toNat - 48) * 10 ^ i + lo q i := by
 have hd : di (q.set (n - 1 - i) c) i = c.toNat - 48 := by
  rw [di_at _ _ (by rw [List.length_set]; omega)];simp only [List.length_set, hq, List.getElem_set_self]
 have hl : lo (q.set (n - 1 - i) c) i = lo q i := by
  unfold lo;rw [List.length_set, List.drop_set, if_pos (by omega)]
 rw [lo_succ, hd, hl]
/-- the last i bytes are digits -/
def Dt (q : List UInt8) (i : Nat) : Prop := (q.drop (q.length - i)).all isD = true
theorem Dt.zero (q : List UInt8) : Dt q 0 := by unfold Dt; rw [Nat.sub_zero, List.drop_length]; rfl
theorem Dt.set {q : List UInt8} {n i : Nat} {c : UInt8} (h : Dt q i) (hq : q.length = n) (hi : i < n) (hc : isD c = true) : Dt (q.set (n - 1 - i) c) (i + 1) := by
 unfold Dt at *;rw [List.length_set, hq, show n - (i + 1) = n - 1 - i by omega, List.drop_eq_getElem_cons (by rw [List.length_set]; omega), List.getElem_set_self, List.drop_set, if_pos (by omega), List.all_cons, hc, Bool.true_and];rw [hq] at h;rw [show n - 1 - i + 1 = n - i by omega]; exact h
theorem Dt.all {q : List UInt8} {n : Nat} (h : Dt q n) (hq : q.length = n) : q.all isD = true := by
 unfold Dt at h; rwa [hq, Nat.sub_self, List.drop_zero] at h
theorem dg_at (s : Nat) : (dg (s % 10)).toNat - 48 = s % 10 := by rw [bB (Nat.mod_lt _ (by omega))]; omega
/-- where a sum stands after i digits -/
structure AddD (a b q : List UInt8) (n i c : Nat) : Prop where
 len : q.length = n
 dig : Dt q i
 c1 : c ≤ 1
 eq : lo q i + c * 10 ^ i = lo a i + lo b i
theorem AddD.start (a b q : List UInt8) (n : Nat) (h : q.length = n) : AddD a b q n 0 0 := ⟨h, Dt.zero q, by omega, by rw [lo_zero, lo_zero, lo_zero, Nat.zero_mul]⟩
theorem AddD.step {a b q : List UInt8} {n i c : Nat} (h : AddD a b q n i c) (ha : a.all isD = true) (hb : b.all isD = true) (hi : i < n) (s : Nat) (hs : s = c + di a i + di b i) :
    AddD a b (q.set (n - 1 - i) (dg (s % 10))) n (i + 1) (s / 10) := by
 have h1 := di_lt a ha i;have h2 := di_lt b hb i;have h3 := h.c1;have h4 := h.eq;refine ⟨by rw [List.length_set]; exact h.len, h.dig.set h.len hi (dg_isD (Nat.mod_lt _ (by omega))), by omega, ?_⟩;rw [lo_set _ _ _ _ h.len hi, lo_succ, lo_succ, dg_at, Nat.pow_succ];have h5 : s = s % 10 + s / 10 * 10 := by omega
 generalize s % 10 = u at *;generalize s / 10 = v at *;subst hs;generalize 10 ^ i = p at *;generalize di a i = x at *;generalize di b i = y at *
 grind
theorem AddD.done {a b q : List UInt8} {n c : Nat} (h : AddD a b q n n c) (ha : a.all isD = true) (hb : b.all isD = true) (h1 : a.length < n) (h2 : b.length < n) : bE q = af (dv a + dv b) := by
 have hall := h.dig.all h.len;have h4 := h.eq;rw [lo_all q n (by rw [h.len]; exact Nat.le_refl _), lo_all a n (by omega), lo_all b n (by omega)] at h4;rw [trimF_decN q hall (fun e => by have := h.len; rw [e] at this; simp at this; omega)];have h5 := dv_lt a ha;have h6 := dv_lt b hb;have h7 : 10 ^ a.length ≤ 10 ^ (n - 1) := Nat.pow_le_pow_right (by omega) (by omega);have h8 : 10 ^ b.length ≤ 10 ^ (n - 1) := Nat.pow_le_pow_right (by omega) (by omega);have h9 : 10 ^ n = 10 * 10 ^ (n - 1) := by rw [← Nat.pow_succ', show (n - 1).succ = n by omega]
 have hc : c = 0 := by
  have hc1 := h.c1;rcases Nat.eq_zero_or_pos c with hc | hc
  · exact hc
  · obtain rfl : c = 1 := by omega
    omega
 subst hc;rw [← h4, Nat.zero_mul, Nat.add_zero]
/-- where a difference stands after i digits -/
structure SubD (a b q : List UInt8) (n i c : Nat) : Prop where
 len : q.length = n
 dig : Dt q i
 c1 : c ≤ 1
 eq : lo q i + lo b i = lo a i + c * 10 ^ i
theorem SubD.start (a b q : List UInt8) (n : Nat) (h : q.length = n) : SubD a b q n 0 0 := ⟨h, Dt.zero q, by omega, by rw [lo_zero, lo_zero, lo_zero, Nat.zero_mul]⟩
theorem SubD.step {a b q : List UInt8} {n i c : Nat} (h : SubD a b q n i c) (hi : i < n) (s c' : Nat) (hs : s + c + di b i = di a i + 10 * c') (h10 : s < 10) (hc : c' ≤ 1) :
    SubD a b (q.set (n - 1 - i) (dg s)) n (i + 1) c' := by
 have h4 := h.eq;refine ⟨by rw [List.length_set]; exact h.len, h.dig.set h.len hi (dg_isD h10), hc, ?_⟩;rw [lo_set _ _ _ _ h.len hi, lo_succ, lo_succ, Nat.pow_succ, bB h10, Nat.add_sub_cancel_left];generalize 10 ^ i = p at *;generalize di a i = x at *;generalize di b i = y at *
 grind
theorem SubD.done {a b q : List UInt8} {n c : Nat} (h : SubD a b q n n c) (h0 : 0 < n) (h1 : a.length ≤ n) (h2 : b.length ≤ n) (hle : dv b ≤ dv a) : bE q = af (dv a - dv b) := by
 have hall := h.dig.all h.len;have h4 := h.eq;rw [lo_all q n (by rw [h.len]; exact Nat.le_refl _), lo_all a n (by omega), lo_all b n (by omega)] at h4;rw [trimF_decN q hall (fun e => by have := h.len; rw [e] at this; simp at this; omega)];have h5 := dv_lt q hall;rw [h.len] at h5
 have hc : c = 0 := by
  have hc1 := h.c1;rcases Nat.eq_zero_or_pos c with hc | hc
  · exact hc
  · obtain rfl : c = 1 := by omega
    omega
 subst hc
 congr 1; omega
/-- the value of a row of great digits, most significant first -/
def vt : List Nat → Nat
 | [] => 0
 | x :: r => x * 10 ^ r.length + vt r
theorem vt_set (L : List Nat) (k x : Nat) (hk : k < L.length) : vt (L.set k (L.getD k 0 + x)) = vt L + x * 10 ^ (L.length - 1 - k) := by
 induction L generalizing k with
 | nil => simp at hk
 | cons y r ih =>
   cases k with
   | zero =>
     rw [List.set_cons_zero, vt, vt, List.getD_cons_zero, List.length_cons, Nat.add_sub_cancel, Nat.sub_zero, Nat.add_mul]
     omega
   | succ k =>
     rw [List.length_cons] at hk;rw [List.set_cons_succ, vt, vt, List.getD_cons_succ, ih k (by omega), List.length_set, List.length_cons, show r.length + 1 - 1 - (k + 1) = r.length - 1 - k by omega]
     omega
theorem vt_zeros (n : Nat) : vt (List.replicate n 0) = 0 := by
 induction n with
 | zero => rfl
 | succ n ih => rw [List.replicate_succ, vt, ih]; omega
theorem vt_drop (L : List Nat) (k : Nat) (hk : k < L.length) : vt (L.drop k) = L.getD k 0 * 10 ^ (L.length - 1 - k) + vt (L.drop (k + 1)) := by
 rw [List.drop_eq_getElem_cons hk, vt, List.length_drop, List.getD_eq_getElem?_getD, List.getElem?_eq_getElem hk, Option.getD_some, show L.length - (k + 1) = L.length - 1 - k by omega]
/-- the i-th digit from the front -/
def fd (l : List UInt8) (i : Nat) : Nat := (l.getD i 48).toNat - 48
theorem fd_lt (l : List UInt8) (h : l.all isD = true) (i : Nat) : fd l i < 10 := by
 unfold fd
 by_cases hi : i < l.length
 · rw [List.getD_eq_getElem?_getD, List.getElem?_eq_getElem hi, Option.getD_some];have := bL.1 (List.all_eq_true.1 h _ (List.getElem_mem hi))
   omega
 · rw [List.getD_eq_getElem?_getD, List.getElem?_eq_none (by omega)]; decide
theorem dv_take (l : List UInt8) (i : Nat) (hi : i < l.length) : dv (l.take (i + 1)) = 10 * dv (l.take i) + fd l i := by
 rw [List.take_succ_eq_append_getElem hi, dv_snoc, fd, List.getD_eq_getElem?_getD, List.getElem?_eq_getElem hi, Option.getD_some]
theorem pow_le {k n : Nat} (h : k < n) : 10 ^ (n - k) = 10 * 10 ^ (n - 1 - k) := by rw [← Nat.pow_succ']; congr 1; omega
/-- where a product stands -/
structure MulD (a b : List UInt8) (L : List Nat) (i j : Nat) : Prop where
 len : L.length = a.length + b.length
 le : ∀ k, L.getD k 0 ≤ 81 * (i * b.length + j)
 eq : vt L = dv (a.take i) * 10 ^ (a.length - i) * dv b + fd a i * 10 ^ (a.length - 1 - i) * (dv (b.take j) * 10 ^ (b.length - j))
theorem MulD.start (a b : List UInt8) : MulD a b (List.replicate (a.length + b.length) 0) 0 0 :=
 ⟨List.length_replicate, fun k => by rw [List.getD_eq_getElem?_getD, List.getElem?_replicate]; split <;> simp, by rw [vt_zeros, List.take_zero, List.take_zero, dv_nil]; omega⟩
theorem MulD.step {a b : List UInt8} {L : List Nat} {i j : Nat} (h : MulD a b L i j) (ha : a.all isD = true) (hb : b.all isD = true) (hi : i < a.length) (hj : j < b.length) :
    MulD a b (L.set (i + j + 1) (L.getD (i + j + 1) 0 + fd a i * fd b j)) i (j + 1) := by
 refine ⟨by rw [List.length_set]; exact h.len, fun k => ?_, ?_⟩
 · have h1 := h.le k;have h2 := h.le (i + j + 1);have h3 : fd a i * fd b j ≤ 9 * 9 := Nat.mul_le_mul (by have := fd_lt a ha i; omega) (by have := fd_lt b hb j; omega);rw [List.getD_eq_getElem?_getD, List.getElem?_set]
   split
   · split
     · rw [Option.getD_some]; omega
     · simp
   · rw [← List.getD_eq_getElem?_getD]; omega
 · rw [vt_set _ _ _ (by rw [h.len]; omega), h.eq, dv_take b j hj, h.len];have e1 : 10 ^ (a.length + b.length - 1 - (i + j + 1)) = 10 ^ (a.length - 1 - i) * 10 ^ (b.length - 1 - j) := by rw [← Nat.pow_add]; congr 1; omega
   rw [e1, pow_le hj, show b.length - (j + 1) = b.length - 1 - j by omega];generalize 10 ^ (a.length - 1 - i) = p;generalize 10 ^ (b.length - 1 - j) = r;generalize fd a i = x;generalize fd b j = y;generalize dv (b.take j) = z;generalize dv (a.take i) * 10 ^ (a.length - i) * dv b = t
   grind
theorem MulD.next {a b : List UInt8} {L : List Nat} {i : Nat} (h : MulD a b L i b.length) (hi : i < a.length) : MulD a b L (i + 1) 0 := by
 refine ⟨h.len, fun k => by have := h.le k; rw [Nat.add_mul]; omega, ?_⟩;rw [h.eq, dv_take a i hi, List.take_length, Nat.sub_self, List.take_zero, dv_nil, pow_le hi, show a.length - (i + 1) = a.length - 1 - i by omega];generalize 10 ^ (a.length - 1 - i) = p
 grind
theorem MulD.done {a b : List UInt8} {L : List Nat} (h : MulD a b L a.length 0) : vt L = dv a * dv b := by
 rw [h.eq, List.take_length, Nat.sub_self, List.take_zero, dv_nil]; grind
/-- where the carrying stands after i digits -/
structure CarD (L : List Nat) (q : List UInt8) (n M i c : Nat) : Prop where
 len : q.length = n
 dig : Dt q i
 c1 : c ≤ M
 eq : lo q i + c * 10 ^ i = vt (L.drop (n - i))
theorem CarD.start (L : List Nat) (q : List UInt8) (n M : Nat) (hq : q.length = n) (hL : L.length = n) : CarD L q n M 0 0 :=
 ⟨hq, Dt.zero q, by omega, by rw [lo_zero, Nat.sub_zero, List.drop_of_length_le (by omega)]; simp [vt]⟩
theorem CarD.step {L : List Nat} {q : List UInt8} {n M i c : Nat} (h : CarD L q n M i c) (hL : L.length = n) (hM : ∀ k, L.getD k 0 ≤ M) (hi : i < n) (s : Nat) (hs : s = L.getD (n - 1 - i) 0 + c) :
    CarD L (q.set (n - 1 - i) (dg (s % 10))) n M (i + 1) (s / 10) := by
 have h3 := h.c1;have h4 := h.eq;have h6 := hM (n - 1 - i);refine ⟨by rw [List.length_set]; exact h.len, h.dig.set h.len hi (dg_isD (Nat.mod_lt _ (by omega))), by omega, ?_⟩;rw [lo_set _ _ _ _ h.len hi, dg_at, Nat.pow_succ, show n - (i + 1) = n - 1 - i by omega, vt_drop L _ (by omega), show n - 1 - i + 1 = n - i by omega, ← h4, hL, show n - 1 - (n - 1 - i) = i by omega];have h5 : s = s % 10 + s / 10 * 10 := by omega
 generalize s % 10 = u at *;generalize s / 10 = v at *;subst hs;generalize 10 ^ i = p at *;generalize L.getD (n - 1 - i) 0 = x at *
 grind
theorem CarD.done {L : List Nat} {q : List UInt8} {n M c : Nat} (h : CarD L q n M n c) (h0 : 0 < n) (hlt : vt L < 10 ^ n) : bE q = af (vt L) := by
 have hall := h.dig.all h.len;have h4 := h.eq;rw [lo_all q n (by rw [h.len]; exact Nat.le_refl _), Nat.sub_self, List.drop_zero] at h4;rw [trimF_decN q hall (fun e => by have := h.len; rw [e] at this; simp at this; omega)]
 have hc : c = 0 := by
  rcases Nat.eq_zero_or_pos c with hc | hc
  · exact hc
  · have : 1 * 10 ^ n ≤ c * 10 ^ n := Nat.mul_le_mul_right _ hc
    omega
 subst hc;rw [← h4, Nat.zero_mul, Nat.add_zero]
/-- where a long division by digits stands -/
structure LdD (a : List UInt8) (B : Nat) (q : List UInt8) (i R : Nat) : Prop where
 len : q.length = a.length
 dig : (q.take i).all isD = true
 r1 : R < B
 eq : dv (q.take i) * B + R = dv (a.take i)
theorem LdD.start (a q : List UInt8) (B : Nat) (hq : q.length = a.length) (hB : 0 < B) : LdD a B q 0 0 := ⟨hq, rfl, hB, by rw [List.take_zero, List.take_zero, dv_nil]; omega⟩
theorem LdD.step {a : List UInt8} {B : Nat} {q : List UInt8} {i R R' k : Nat} (h : LdD a B q i R) (hi : i < a.length) (hk : k < 10) (hR : R' < B) (he : R' + k * B = 10 * R + fd a i) :
    LdD a B (q.set i (dg k)) (i + 1) R' := by
 have hl := h.len
 have ht : (q.set i (dg k)).take (i + 1) = q.take i ++ [dg k] := by
  rw [List.take_succ_eq_append_getElem (by rw [List.length_set]; omega), List.getElem_set_self, List.take_set, List.set_eq_of_length_le (by rw [List.length_take]; omega)]
 refine ⟨by rw [List.length_set]; exact hl, ?_, hR, ?_⟩
 · rw [ht, List.all_append, h.dig]; simp [dg_isD hk]
 · have := h.eq;rw [ht, dv_snoc, dv_take a i hi, bB hk, ← this, Nat.add_sub_cancel_left];generalize dv (q.take i) = x at *
   grind
theorem LdD.done {a : List UInt8} {B : Nat} {q : List UInt8} {R : Nat} (h : LdD a B q a.length R) (h0 : a ≠ []) : bE q = af (dv a / B) ∧ R = dv a % B := by
 have h1 := h.eq;have h2 := h.dig;have hB := h.r1;rw [List.take_length, List.take_of_length_le (by rw [h.len]; exact Nat.le_refl _)] at h1;rw [List.take_of_length_le (by rw [h.len]; exact Nat.le_refl _)] at h2;rw [trimF_decN q h2 (fun e => h0 (List.length_eq_zero_iff.1 (by rw [← h.len, e]; rfl)))]
 have h3 : dv a / B = dv q ∧ dv a % B = R := by
  rw [← h1];refine ⟨?_, ?_⟩
  · rw [Nat.mul_comm, Nat.mul_add_div (by omega), Nat.div_eq_of_lt hB, Nat.add_zero]
  · rw [Nat.mul_comm, Nat.mul_add_mod, Nat.mod_eq_of_lt hB]
 exact ⟨by rw [h3.1], h3.2.symm⟩
theorem trim_push (R : Nat) (c : UInt8) (hc : isD c = true) : bE (af R ++ [c]) = af (10 * R + (c.toNat - 48)) := by
 rw [trimF_decN _ (by rw [List.all_append, ay]; simp [hc]) (by simp), dv_snoc, bu]
theorem digit_le {B R d k R' : Nat} (hR : R < B) (hd : d < 10) (he : R' + k * B = 10 * R + d) (hB : B ≤ R') : k + 1 < 10 := by
 rcases Nat.lt_or_ge (k + 1) 10 with h | h
 · exact h
 · have : 10 * B ≤ (k + 1) * B := Nat.mul_le_mul_right _ h;rw [Nat.add_mul] at this
   omega
end Nmx
namespace Nmx
/-- the number of a sign, a numerator and a denominator -/
def redQ (neg : Bool) (n d : Nat) : Rat := Rat.divInt (sgn neg n) d
theorem sgn_natAbs (b : Bool) (n : Nat) : (sgn b n).natAbs = n := by cases b <;> simp [sgn]
theorem sgn_lt (b : Bool) (n : Nat) : decide (sgn b n < 0) = (b && decide (n ≠ 0)) := by
 rw [Bool.eq_iff_iff];cases b
 · simp [sgn]
 · simp [sgn]
   omega
theorem redQ_parts (neg : Bool) (n d : Nat) (hd : 0 < d) : (redQ neg n d).num = sgn neg (n / n.gcd d) ∧ (redQ neg n d).den = d / n.gcd d := by
 unfold redQ;rw [Rat.divInt_ofNat, ← Rat.normalize_eq_mkRat (by omega), Rat.normalize_eq];have hg : (sgn neg n).natAbs.gcd d = n.gcd d := by rw [sgn_natAbs]
 simp only [hg, and_true];obtain ⟨k, hk⟩ := Nat.gcd_dvd_left n d;have hp : 0 < n.gcd d := Nat.gcd_pos_of_pos_right _ hd;generalize n.gcd d = g at *;subst hk;have e : (g * k : Nat) / g = k := Nat.mul_div_cancel_left _ hp;rw [e];cases neg
 · simp only [sgn, Bool.false_eq_true, if_false, Int.natCast_mul];exact Int.mul_ediv_cancel_left _ (by omega)
 · simp only [sgn, if_true, Int.natCast_mul];rw [← Int.mul_neg];exact Int.mul_ediv_cancel_left _ (by omega)
theorem redQ_num (neg : Bool) (n d : Nat) (hd : 0 < d) : decide ((redQ neg n d).num < 0) = (neg && decide (n / n.gcd d ≠ 0)) ∧ (redQ neg n d).num.natAbs = n / n.gcd d := by
 rw [(redQ_parts neg n d hd).1, sgn_lt, sgn_natAbs]; exact ⟨rfl, rfl⟩
theorem sgn_of (z : Int) : sgn (decide (z < 0)) z.natAbs = z := by unfold sgn; split <;> simp_all <;> omega
theorem redQ_self (q : Rat) : redQ (decide (q.num < 0)) q.num.natAbs q.den = q := by
 unfold redQ; rw [sgn_of]; rw [Rat.divInt_ofNat, Rat.mkRat_self]
theorem sgB_app (z : Int) (t : List UInt8) : sgB (bh z ++ t) = decide (z < 0) := by
 have h := sgB_decI z;obtain ⟨c, r, hc, -⟩ := decN_cons z.natAbs;unfold bh sgB at *
 by_cases hz : z < 0
 · rw [if_pos hz] at h ⊢; exact h
 · rw [if_neg hz, hc] at h ⊢; exact h
theorem body_app (z : Int) (t : List UInt8) : bw (bh z ++ t) = af z.natAbs ++ t := by
 have h := sgB_app z t;unfold bw;rw [h];unfold bh
 by_cases hz : z < 0
 · rw [decide_eq_true hz, if_pos rfl, if_pos hz]; rfl
 · rw [decide_eq_false hz, if_neg (by simp), if_neg hz]
theorem upto_no {l : List UInt8} (h : ∀ x ∈ l, (x != 47) = true) : upto l = l := by
 unfold upto
 induction l with
 | nil => rfl
 | cons c r ih => rw [List.takeWhile_cons, if_pos (h c List.mem_cons_self), ih fun x hx => h x (List.mem_cons_of_mem _ hx)]
/-- what the reference takes for the denominator -/
def denB (s : List UInt8) : List UInt8 := if s.contains 47 then aI s else [49]
theorem decN_one : af 1 = [49] := by rw [bN (by omega)]; rfl
theorem text_parts (q : Rat) : sgB (aK q) = decide (q.num < 0) ∧ upto (bw (aK q)) = af q.num.natAbs ∧ denB (bw (aK q)) = af q.den := by
 unfold aK;rw [sgB_app, body_app];refine ⟨rfl, ?_⟩;have hn := decN_no q.num.natAbs 47 (by decide)
 by_cases hd : q.den = 1
 · rw [if_pos hd, List.append_nil, upto_no hn, denB, contains_no hn, hd, decN_one]; simp
 · rw [if_neg hd];obtain ⟨h1, h2, h3⟩ := cut_at (b := af q.den) hn;rw [h1, denB, h3, h2]; simp
/-- what is not the text of a number -/
theorem parse_none {l : List UInt8} (h : ap l = none) (q : Rat) : aK q ≠ l := fun e => by rw [← e, ratF_text] at h; cases h
theorem parse_text {l : List UInt8} {q : Rat} (h : ap l = some q) : sgB l = decide (q.num < 0) ∧ upto (bw l) = af q.num.natAbs ∧ denB (bw l) = af q.den := by
 rw [← ratF_some h]; exact text_parts q
/-- how the reference writes a number -/
theorem textQ_form (q : Rat) : aK q = (if q.num < 0 then [45] else []) ++ (af q.num.natAbs ++ (if q.den = 1 then [] else 47 :: af q.den)) := by
 unfold aK bh
 split <;> simp
theorem decN_eq_one {n : Nat} : af n = [49] ↔ n = 1 := ⟨fun h => decN_inj (h.trans decN_one.symm), fun h => by rw [h, decN_one]⟩
theorem decN_eq_zero {n : Nat} : af n = [48] ↔ n = 0 := ⟨fun h => decN_inj (h.trans decN_zero.symm), fun h => by rw [h, decN_zero]⟩
theorem sgn_mul (a b : Bool) (m n : Nat) : sgn (a != b) (m * n) = sgn a m * sgn b n := by
 cases a <;> cases b <;> simp [sgn, Int.mul_neg, Int.neg_mul]
theorem neg_mul_nat (a : Bool) (m n : Nat) : sgn a (m * n) = sgn a m * n := by cases a <;> simp [sgn, Int.neg_mul]
theorem redQ_mul (x y : Rat) : redQ (decide (x.num < 0) != decide (y.num < 0)) (x.num.natAbs * y.num.natAbs) (x.den * y.den) = x * y := by
 unfold redQ;rw [sgn_mul, sgn_of, sgn_of, Rat.mul_def, Rat.normalize_eq_mkRat (Nat.mul_ne_zero x.den_nz y.den_nz), Rat.divInt_ofNat]
theorem add_form (x y : Rat) : x + y = Rat.divInt (x.num * y.den + y.num * x.den) ((x.den * y.den : Nat) : Int) := by
 rw [Rat.add_def, Rat.normalize_eq_mkRat (Nat.mul_ne_zero x.den_nz y.den_nz), Rat.divInt_ofNat]
theorem redQ_same (x y : Rat) (h : decide (x.num < 0) = decide (y.num < 0)) : redQ (decide (x.num < 0)) (x.num.natAbs * y.den + y.num.natAbs * x.den) (x.den * y.den) = x + y := by
 rw [add_form];unfold redQ
 congr 1
 have h1 := neg_mul_nat (decide (x.num < 0)) x.num.natAbs y.den;have h2 := neg_mul_nat (decide (y.num < 0)) y.num.natAbs x.den;rw [sgn_of] at h1 h2;rw [← h1, ← h2, ← h];cases decide (x.num < 0) <;> simp [sgn] <;> omega
theorem redQ_more (x y : Rat) (h : decide (x.num < 0) ≠ decide (y.num < 0)) (hle : y.num.natAbs * x.den ≤ x.num.natAbs * y.den) : redQ (decide (x.num < 0)) (x.num.natAbs * y.den - y.num.natAbs * x.den) (x.den * y.den) = x + y := by
 rw [add_form];unfold redQ
 congr 1
 have h1 := neg_mul_nat (decide (x.num < 0)) x.num.natAbs y.den;have h2 := neg_mul_nat (decide (y.num < 0)) y.num.natAbs x.den;rw [sgn_of] at h1 h2;rw [← h1, ← h2];generalize x.num.natAbs * y.den = m at *;generalize y.num.natAbs * x.den = n at *
 revert h
 cases decide (x.num < 0) <;> cases decide (y.num < 0) <;> simp [sgn] <;> omega
theorem redQ_less (x y : Rat) (h : decide (x.num < 0) ≠ decide (y.num < 0)) (hle : x.num.natAbs * y.den ≤ y.num.natAbs * x.den) : redQ (decide (y.num < 0)) (y.num.natAbs * x.den - x.num.natAbs * y.den) (x.den * y.den) = x + y := by
 have := redQ_more y x (Ne.symm h) hle;rwa [Rat.add_comm, Nat.mul_comm y.den] at this
theorem redQ_div (x y : Rat) (h : y.num ≠ 0) : redQ (decide (x.num < 0) != decide (y.num < 0)) (x.num.natAbs * y.den) (x.den * y.num.natAbs) = x / y := by
 have hy : y ≠ 0 := fun e => h (by rw [e]; rfl)
 have e : x / y = Rat.divInt (x.num * y.den) (x.den * y.num) := by
  rw [Rat.div_def]
  have h1 : y⁻¹ = Rat.divInt y.den y.num := by
   conv => lhs; rw [← Rat.num_divInt_den y]
   rw [Rat.inv_divInt]
  rw [h1]
  conv => lhs; rw [← Rat.num_divInt_den x]
  rw [Rat.divInt_mul_divInt]
 rw [e];unfold redQ
 by_cases hn : y.num < 0
 · have e2 : (x.den : Int) * y.num = -((x.den * y.num.natAbs : Nat) : Int) := by rw [Int.natCast_mul, ← Int.mul_neg]; congr 1; omega
   rw [e2, Rat.divInt_neg', decide_eq_true hn]
   congr 1
   have h1 := neg_mul_nat (decide (x.num < 0)) x.num.natAbs y.den;rw [sgn_of] at h1;rw [← h1];cases decide (x.num < 0) <;> simp [sgn]
 · have e2 : (x.den : Int) * y.num = ((x.den * y.num.natAbs : Nat) : Int) := by rw [Int.natCast_mul]; congr 1; omega
   rw [e2, decide_eq_false hn, Bool.bne_false, neg_mul_nat, sgn_of]
/-- the greatest integer that is not greater -/
def flI (x : Rat) : Int := x.num / x.den
theorem flI_eq (x : Rat) : sgn (decide (x.num < 0)) (x.num.natAbs / x.den + (if (decide (x.num < 0) && decide (x.num.natAbs % x.den ≠ 0)) = true then 1 else 0)) = flI x := by
 unfold flI;have hd := x.den_pos
 by_cases hn : x.num < 0
 · obtain ⟨m, hm⟩ : ∃ m : Nat, x.num = -(m : Int) := ⟨x.num.natAbs, by omega⟩
   rw [hm, Int.natAbs_neg, Int.natAbs_natCast];rw [hm] at hn;rw [decide_eq_true hn];generalize x.den = d at *;have h1 := Nat.div_add_mod m d;have h2 := Nat.mod_lt m hd
   by_cases h0 : m % d = 0
   · rw [if_neg (by simp [h0]), Nat.add_zero];rw [h0, Nat.add_zero] at h1;simp only [sgn, if_true]
     conv => rhs; rw [← h1]
     rw [Int.natCast_mul, ← Int.mul_neg];exact (Int.mul_ediv_cancel_left _ (by omega)).symm
   · rw [if_pos (by simp [h0])];simp only [sgn, if_true]
     symm
     rw [Int.ediv_eq_iff_of_pos (by omega)];generalize m / d = u at *;generalize m % d = r at *;subst h1
     constructor <;> grind
 · obtain ⟨m, hm⟩ : ∃ m : Nat, x.num = (m : Int) := ⟨x.num.natAbs, by omega⟩
   rw [decide_eq_false hn, Bool.false_and, if_neg (by simp), hm, Int.natAbs_natCast]
   simp [sgn]
end Nmx
namespace Nmx
theorem flI_le (x : Rat) : (flI x : Rat) ≤ x := by
 unfold flI;rw [Rat.le_iff, Rat.num_intCast, Rat.den_intCast];have := Int.ediv_mul_le x.num (b := (x.den : Int)) (by have := x.den_nz; omega)
 omega
theorem flI_lt (x : Rat) : x < (flI x : Rat) + 1 := by
 have h1 : (flI x : Rat) + 1 = ((flI x + 1 : Int) : Rat) := by rw [Rat.intCast_add]; rfl
 rw [h1];unfold flI;rw [Rat.lt_iff, Rat.num_intCast, Rat.den_intCast];have := Int.lt_ediv_add_one_mul_self x.num (b := (x.den : Int)) (by have := x.den_nz; omega)
 omega
/-- the least integer that is not less -/
def ceI (x : Rat) : Int := -flI (-x)
theorem flI_div (x y : Int) (hy : 0 < y) : flI ((x : Rat) / (y : Rat)) = x / y := by
 have h1 := flI_le ((x : Rat) / y);have h2 := flI_lt ((x : Rat) / y);generalize flI ((x : Rat) / y) = f at *;have hyq : (0 : Rat) < (y : Rat) := Rat.intCast_pos.2 hy;have h3 : (x : Rat) / y * y = x := Rat.div_mul_cancel (by grind);have h4 : (f : Rat) * y ≤ x := by have := Rat.mul_le_mul_of_nonneg_right (c := (y : Rat)) h1 (by grind); rwa [h3] at this
 have h5 : (x : Rat) < ((f : Rat) + 1) * y := by have := Rat.mul_lt_mul_of_pos_right h2 hyq; rwa [h3] at this
 have h6 : f * y ≤ x := by
  rw [← Rat.intCast_mul] at h4; exact Rat.intCast_le_intCast.1 h4
 have h7 : x < (f + 1) * y := by
  have e : ((f : Rat) + 1) * y = (((f + 1) * y : Int) : Rat) := by rw [Rat.intCast_mul, Rat.intCast_add]; rfl
  rw [e] at h5; exact Rat.intCast_lt_intCast.1 h5
 symm
 rw [Int.ediv_eq_iff_of_pos hy]
 constructor
 · first | exact h6 | (rw [Int.mul_comm]; exact h6)
 · rw [Int.add_mul] at h7; first | omega | (rw [Int.mul_comm]; omega)
/-- the least common multiple as the program finds it -/
def lcI (x y : Int) : Int := if x = 0 ∨ y = 0 then 0 else ((x / Int.gcd x y * y).natAbs : Int)
end Nmx
namespace Nmx
/-- at most d digits in the numerator and the denominator -/
def DS (d : Nat) (q : Rat) : Prop := q.num.natAbs < 10 ^ d ∧ q.den ≤ 10 ^ d
theorem ten_le {d e : Nat} (h : d ≤ e) : 10 ^ d ≤ 10 ^ e := Nat.pow_le_pow_right (by omega) h
theorem ten_pos (d : Nat) : 0 < 10 ^ d := Nat.pow_pos (by omega)
theorem DS.mono {d e : Nat} {q : Rat} (h : DS d q) (hd : d ≤ e) : DS e q :=
 ⟨Nat.lt_of_lt_of_le h.1 (ten_le hd), Nat.le_trans h.2 (ten_le hd)⟩
theorem ten_mul {a b d e : Nat} (ha : a < 10 ^ d) (hb : b ≤ 10 ^ e) : a * b < 10 ^ (d + e) := by
 rw [Nat.pow_add];rcases Nat.eq_zero_or_pos b with h | h
 · subst h; rw [Nat.mul_zero]; exact Nat.mul_pos (ten_pos _) (ten_pos _)
 · exact Nat.mul_lt_mul_of_lt_of_le ha hb (ten_pos _)
theorem ten_mul_le {a b d e : Nat} (ha : a ≤ 10 ^ d) (hb : b ≤ 10 ^ e) : a * b ≤ 10 ^ (d + e) := by
 rw [Nat.pow_add]; exact Nat.mul_le_mul ha hb
theorem redQ_le (neg : Bool) (n d : Nat) (hd : 0 < d) : (redQ neg n d).num.natAbs ≤ n ∧ (redQ neg n d).den ≤ d := by
 obtain ⟨h1, h2⟩ := redQ_parts neg n d hd;rw [h1, h2, sgn_natAbs];exact ⟨Nat.div_le_self _ _, Nat.div_le_self _ _⟩
theorem DS.red {neg : Bool} {n d k : Nat} (hn : n < 10 ^ k) (hd : 0 < d) (hd' : d ≤ 10 ^ k) : DS k (redQ neg n d) := by
 obtain ⟨h1, h2⟩ := redQ_le neg n d hd;exact ⟨Nat.lt_of_le_of_lt h1 hn, Nat.le_trans h2 hd'⟩
theorem DS.mul {d e : Nat} {p q : Rat} (hp : DS d p) (hq : DS e q) : DS (d + e) (p * q) := by
 rw [← redQ_mul];exact DS.red (ten_mul hp.1 (Nat.le_of_lt hq.1)) (Nat.mul_pos p.den_pos q.den_pos) (ten_mul_le hp.2 hq.2)
theorem DS.add {d e : Nat} {p q : Rat} (hp : DS d p) (hq : DS e q) : DS (d + e + 1) (p + q) := by
 have h1 := ten_mul hp.1 hq.2;have h2 := ten_mul hq.1 hp.2;have h3 := ten_mul_le hp.2 hq.2;rw [Nat.add_comm e d] at h2;have h4 : 10 ^ (d + e + 1) = 10 * 10 ^ (d + e) := Nat.pow_succ';have h5 : p.num.natAbs * q.den + q.num.natAbs * p.den < 10 ^ (d + e + 1) := by omega
 have h6 : p.den * q.den ≤ 10 ^ (d + e + 1) := by omega
 have h7 : 0 < p.den * q.den := Nat.mul_pos p.den_pos q.den_pos
 by_cases hs : decide (p.num < 0) = decide (q.num < 0)
 · rw [← redQ_same p q hs]; exact DS.red h5 h7 h6
 · rcases Nat.le_total (q.num.natAbs * p.den) (p.num.natAbs * q.den) with hle | hle
   · rw [← redQ_more p q hs hle]; exact DS.red (by omega) h7 h6
   · rw [← redQ_less p q hs hle]; exact DS.red (by omega) h7 h6
theorem DS.neg {d : Nat} {p : Rat} (hp : DS d p) : DS d (-p) := ⟨by show (-p.num).natAbs < _; rw [Int.natAbs_neg]; exact hp.1, hp.2⟩
theorem DS.div {d e : Nat} {p q : Rat} (hp : DS d p) (hq : DS e q) (h0 : q.num ≠ 0) : DS (d + e) (p / q) := by
 rw [← redQ_div p q h0];exact DS.red (ten_mul hp.1 hq.2) (Nat.mul_pos p.den_pos (by omega)) (ten_mul_le hp.2 (Nat.le_of_lt hq.1))
theorem DS.int {d : Nat} {z : Int} (h : z.natAbs < 10 ^ d) : DS d (z : Rat) := ⟨by rw [Rat.num_intCast]; exact h, by rw [Rat.den_intCast]; exact ten_pos d⟩
theorem DS.zero (d : Nat) : DS d 0 := DS.int (z := 0) (ten_pos d)
theorem DS.num {d : Nat} {p : Rat} (hp : DS d p) : DS d (p.num : Rat) := DS.int hp.1
theorem DS.den {d : Nat} {p : Rat} (hp : DS d p) : DS (d + 1) (((p.den : Int)) : Rat) := DS.int (by
 rw [Int.natAbs_natCast];have := hp.2;have := ten_pos d;have h4 : 10 ^ (d + 1) = 10 * 10 ^ d := Nat.pow_succ'
 omega)
theorem fl_abs (x : Rat) : (flI x).natAbs ≤ x.num.natAbs + 1 := by
 rw [← flI_eq, sgn_natAbs];have := Nat.div_le_self x.num.natAbs x.den
 split <;> omega
theorem DS.fl {d : Nat} {p : Rat} (hp : DS d p) : DS (d + 1) (flI p : Rat) := DS.int (by
 have h1 := fl_abs p;have h2 := hp.1;have h4 : 10 ^ (d + 1) = 10 * 10 ^ d := Nat.pow_succ'
 omega)
theorem dec_lt (n : Nat) : n < 10 ^ (af n).length := by
 by_cases h : n = 0
 · subst h; exact ten_pos _
 · exact (decN_len n h).2
theorem decI_ge (z : Int) : (af z.natAbs).length ≤ (bh z).length := by unfold bh; split <;> simp
theorem decI_le (z : Int) : (bh z).length ≤ (af z.natAbs).length + 1 := by unfold bh; split <;> simp
theorem ds_text (q : Rat) : DS (aK q).length q := by
 unfold aK
 constructor
 · refine Nat.lt_of_lt_of_le (dec_lt q.num.natAbs) (ten_le ?_);have := decI_ge q.num;rw [List.length_append]; omega
 · by_cases h : q.den = 1
   · rw [h]; exact ten_pos _
   · rw [if_neg h];refine Nat.le_trans (Nat.le_of_lt (dec_lt q.den)) (ten_le ?_);rw [List.length_append, List.length_cons]; omega
theorem ds_of {l : List UInt8} {q : Rat} (h : ap l = some q) : DS l.length q := by rw [← ratF_some h]; exact ds_text q
theorem DS.decN_num {d : Nat} {q : Rat} (h : DS d q) : (af q.num.natAbs).length ≤ d + 1 :=
 decN_len_le (by omega) (Nat.lt_of_lt_of_le h.1 (ten_le (by omega)))
theorem DS.decN_den {d : Nat} {q : Rat} (h : DS d q) : (af q.den).length ≤ d + 1 :=
 decN_len_le (by omega) (by
  have h4 : 10 ^ (d + 1) = 10 * 10 ^ d := Nat.pow_succ';have := h.2;have := ten_pos d
  omega)
theorem DS.len {d : Nat} {q : Rat} (h : DS d q) : (aK q).length ≤ 2 * d + 4 := by
 have h1 := h.decN_num;have h2 := h.decN_den;have h3 := decI_le q.num;unfold aK;rw [List.length_append]
 split
 · simp; omega
 · rw [List.length_cons]; omega
theorem DS.parts {d : Nat} {q : Rat} (h : DS d q) : (bh q.num).length + (bh q.den).length ≤ 2 * d + 4 := by
 have h1 := h.decN_num;have h2 := h.decN_den;have h3 := decI_le q.num;rw [decI_nat]; omega
theorem ten_words {n d k : Nat} (h : n ≤ 10 ^ d) (hk : d < 9 * k) : n < BB ^ k := by
 have h1 : 10 ^ (9 * k) = (10 ^ 9) ^ k := Nat.pow_mul ..;have h2 : (10 ^ 9) ^ k ≤ BB ^ k := Nat.pow_le_pow_left (by rw [aC]; omega) k;have h3 : 10 ^ d < 10 ^ (9 * k) := Nat.pow_lt_pow_right (by omega) hk
 omega
def addO (x y : Rat) : Option Rat := some (x + y)
def subO (x y : Rat) : Option Rat := some (x - y)
def mulO (x y : Rat) : Option Rat := some (x * y)
def divO (x y : Rat) : Option Rat := if y.num = 0 then none else some (x / y)
def quoO (x y : Rat) : Option Rat := if x.den = 1 ∧ y.den = 1 ∧ y.num ≠ 0 then some ((x.num / y.num : Int) : Rat) else none
def remO (x y : Rat) : Option Rat := if x.den = 1 ∧ y.den = 1 ∧ y.num ≠ 0 then some ((x.num % y.num : Int) : Rat) else none
def gcdO (x y : Rat) : Option Rat := if x.den = 1 ∧ y.den = 1 then some ((Int.gcd x.num y.num : Int) : Rat) else none
def lcmO (x y : Rat) : Option Rat := if x.den = 1 ∧ y.den = 1 then some (lcI x.num y.num : Rat) else none
theorem on2_text (f : Rat → Rat → Option Rat) (p q : Rat) : on2 f (aK p) (aK q) = txt (f p q) := by unfold on2; rw [ratF_text, ratF_text]; rfl
theorem on1_text (f : Rat → Option Rat) (p : Rat) : on1 f (aK p) = txt (f p) := by unfold on1; rw [ratF_text]; rfl
theorem bI {f : Rat → Rat → Option Rat} {a b : List UInt8} {p q : Rat} (hp : ap a = some p) (hq : ap b = some q) : on2 f a b = txt (f p q) := by unfold on2; rw [hp, hq]; rfl
theorem on2_left {f : Rat → Rat → Option Rat} {a b : List UInt8} (hp : ap a = none) : on2 f a b = [] := by unfold on2; rw [hp]; rfl
theorem on2_right {f : Rat → Rat → Option Rat} {a b : List UInt8} (hq : ap b = none) : on2 f a b = [] := by unfold on2; rw [hq]; cases ap a <;> rfl
theorem on1_some {f : Rat → Option Rat} {a : List UInt8} {p : Rat} (hp : ap a = some p) : on1 f a = txt (f p) := by unfold on1; rw [hp]; rfl
theorem on1_none {f : Rat → Option Rat} {a : List UInt8} (hp : ap a = none) : on1 f a = [] := by unfold on1; rw [hp]; rfl
end Nmx

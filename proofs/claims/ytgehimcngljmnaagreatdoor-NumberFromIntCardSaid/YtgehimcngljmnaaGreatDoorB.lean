/- Plain words about rows of words of 32 bits: no program. -/
namespace Nmx

/-- the number of values of a word -/
noncomputable def BB : Nat := (Classical.choice ⟨(⟨4294967296, rfl⟩ : { n : Nat // n = 4294967296 })⟩).1
theorem BB_eq : BB = 4294967296 := (Classical.choice ⟨(⟨4294967296, rfl⟩ : { n : Nat // n = 4294967296 })⟩).2
/-- what a row of words denotes, the least significant word first -/
noncomputable def wv : List Nat → Nat
  | [] => 0
  | x :: l => x + BB * wv l
def Ws (l : List Nat) : Prop := ∀ x ∈ l, x < BB

theorem wv_nil : wv [] = 0 := rfl
theorem wv_cons (x : Nat) (l : List Nat) : wv (x :: l) = x + BB * wv l := rfl
theorem wv_append (a b : List Nat) : wv (a ++ b) = wv a + BB ^ a.length * wv b := by
  induction a with
  | nil => simp [wv_nil]
  | cons x r ih =>
    rw [List.cons_append, wv_cons, wv_cons, ih, List.length_cons, Nat.pow_succ, Nat.mul_add, Nat.add_assoc]
    congr 2
    rw [← Nat.mul_assoc, Nat.mul_comm BB]
theorem wv_one (x : Nat) : wv [x] = x := by simp [wv_cons, wv_nil]
theorem wv_snoc (l : List Nat) (x : Nat) : wv (l ++ [x]) = wv l + BB ^ l.length * x := by rw [wv_append, wv_one]
theorem wv_zeros (n : Nat) : wv (List.replicate n 0) = 0 := by
  induction n with
  | zero => rfl
  | succ n ih => rw [List.replicate_succ, wv_cons, ih]; simp
theorem BB_pos : 0 < BB := by rw [BB_eq]; omega
theorem BBp_pos (n : Nat) : 0 < BB ^ n := Nat.pow_pos BB_pos
theorem Ws.cons {x : Nat} {l : List Nat} (hx : x < BB) (h : Ws l) : Ws (x :: l) := fun y hy => by
  rw [List.mem_cons] at hy
  rcases hy with rfl | hy
  · exact hx
  · exact h y hy
theorem Ws.nil : Ws [] := fun _ h => by cases h
theorem Ws.append {a b : List Nat} (ha : Ws a) (hb : Ws b) : Ws (a ++ b) := fun y hy => by
  rw [List.mem_append] at hy
  rcases hy with h | h
  · exact ha y h
  · exact hb y h
theorem Ws.left {a b : List Nat} (h : Ws (a ++ b)) : Ws a := fun y hy => h y (List.mem_append_left _ hy)
theorem Ws.right {a b : List Nat} (h : Ws (a ++ b)) : Ws b := fun y hy => h y (List.mem_append_right _ hy)
theorem Ws.take {l : List Nat} (h : Ws l) (n : Nat) : Ws (l.take n) := fun y hy => h y (List.mem_of_mem_take hy)
theorem Ws.drop {l : List Nat} (h : Ws l) (n : Nat) : Ws (l.drop n) := fun y hy => h y (List.mem_of_mem_drop hy)
theorem Ws.set {l : List Nat} (h : Ws l) (i : Nat) {x : Nat} (hx : x < BB) : Ws (l.set i x) := fun y hy => by
  rcases List.mem_or_eq_of_mem_set hy with h1 | h1
  · exact h y h1
  · rw [h1]; exact hx
theorem Ws.zeros (n : Nat) : Ws (List.replicate n 0) := fun y hy => by rw [(List.mem_replicate.1 hy).2]; exact BB_pos
theorem Ws.get {l : List Nat} (h : Ws l) (i : Nat) (hi : i < l.length) : l[i] < BB := h _ (List.getElem_mem hi)
theorem wv_lt (l : List Nat) (h : Ws l) : wv l < BB ^ l.length := by
  induction l with
  | nil => simp [wv_nil]
  | cons x r ih =>
    have h1 := h x (by simp)
    have h2 := ih (fun y hy => h y (by simp [hy]))
    rw [wv_cons, List.length_cons, Nat.pow_succ]
    have : BB * (wv r + 1) ≤ BB * BB ^ r.length := Nat.mul_le_mul_left _ h2
    rw [Nat.mul_add, Nat.mul_one, Nat.mul_comm BB (BB ^ r.length)] at this
    omega
theorem wv_set (l : List Nat) (i x : Nat) (hi : i < l.length) : wv (l.set i x) + BB ^ i * l[i] = wv l + BB ^ i * x := by
  induction l generalizing i with
  | nil => simp at hi
  | cons y r ih =>
    cases i with
    | zero => simp only [List.set_cons_zero, wv_cons, List.getElem_cons_zero, Nat.pow_zero, Nat.one_mul]; omega
    | succ i =>
      simp only [List.set_cons_succ, wv_cons, List.getElem_cons_succ]
      have := ih i (by simpa using hi)
      rw [Nat.pow_succ, Nat.mul_right_comm, Nat.mul_right_comm (BB ^ i) BB x, Nat.mul_comm _ BB, Nat.mul_comm _ BB]
      have h2 : BB * (wv (r.set i x) + BB ^ i * r[i]'(by simpa using hi)) = BB * (wv r + BB ^ i * x) := by rw [this]
      rw [Nat.mul_add, Nat.mul_add] at h2
      omega
theorem wv_take_succ (l : List Nat) (i : Nat) (hi : i < l.length) : wv (l.take (i + 1)) = wv (l.take i) + BB ^ i * l[i] := by
  rw [List.take_succ_eq_append_getElem hi, wv_snoc, List.length_take, Nat.min_eq_left (by omega)]
theorem wv_take_all (l : List Nat) (i : Nat) (hi : l.length ≤ i) : wv (l.take i) = wv l := by rw [List.take_of_length_le hi]
theorem wv_split (l : List Nat) (i : Nat) : wv l = wv (l.take i) + BB ^ (min i l.length) * wv (l.drop i) := by
  rw [← List.length_take, ← wv_append, List.take_append_drop]
theorem wv_drop_succ (l : List Nat) (i : Nat) (hi : i < l.length) : wv (l.drop i) = l[i] + BB * wv (l.drop (i + 1)) := by
  rw [List.drop_eq_getElem_cons hi, wv_cons]

/-- without leading zero words -/
def trimW (l : List Nat) : List Nat := (l.reverse.dropWhile (· == 0)).reverse
theorem trimW_nil : trimW [] = [] := rfl
theorem trimW_zero (l : List Nat) : trimW (l ++ [0]) = trimW l := by simp [trimW]
theorem trimW_stop (l : List Nat) (x : Nat) (hx : x ≠ 0) : trimW (l ++ [x]) = l ++ [x] := by simp [trimW, hx]
def Norm (l : List Nat) : Prop := Ws l ∧ ∀ x, l.getLast? = some x → x ≠ 0
theorem snocCases {P : List Nat → Prop} (h0 : P []) (hs : ∀ l a, P l → P (l ++ [a])) (l : List Nat) : P l := by
  have h : ∀ l : List Nat, P l.reverse := by
    intro l
    induction l with
    | nil => exact h0
    | cons a r ih => rw [List.reverse_cons]; exact hs _ _ ih
  have := h l.reverse
  rwa [List.reverse_reverse] at this
theorem trimW_wv (l : List Nat) : wv (trimW l) = wv l := by
  induction l using snocCases with
  | h0 => rfl
  | hs l a ih =>
    by_cases h : a = 0
    · subst h; rw [trimW_zero, ih, wv_snoc]; simp
    · rw [trimW_stop _ _ h]
theorem trimW_norm (l : List Nat) (h : Ws l) : Norm (trimW l) := by
  induction l using snocCases with
  | h0 => exact ⟨Ws.nil, fun x hx => by cases hx⟩
  | hs l a ih =>
    by_cases ha : a = 0
    · subst ha; rw [trimW_zero]; exact ih h.left
    · rw [trimW_stop _ _ ha]
      exact ⟨h, fun x hx => by rw [List.getLast?_append] at hx; simp at hx; omega⟩
theorem trimW_len (l : List Nat) : (trimW l).length ≤ l.length := by
  induction l using snocCases with
  | h0 => simp [trimW_nil]
  | hs l a ih =>
    by_cases ha : a = 0
    · subst ha; rw [trimW_zero, List.length_append]; omega
    · rw [trimW_stop _ _ ha]; exact Nat.le_refl _
theorem trimW_take (l : List Nat) : trimW l = l.take (trimW l).length := by
  induction l using snocCases with
  | h0 => rfl
  | hs l a ih =>
    by_cases ha : a = 0
    · subst ha
      rw [trimW_zero, List.take_append_of_le_length (trimW_len l)]
      exact ih
    · rw [trimW_stop _ _ ha, List.take_length]
theorem norm_trim (l : List Nat) (h : Norm l) : trimW l = l := by
  induction l using snocCases with
  | h0 => rfl
  | hs l a _ => exact trimW_stop _ _ (h.2 a (by simp))
theorem norm_pos (l : List Nat) (h : Norm l) (h0 : l ≠ []) : BB ^ (l.length - 1) ≤ wv l := by
  induction l using snocCases with
  | h0 => exact absurd rfl h0
  | hs l a _ =>
    have ha := h.2 a (by simp)
    rw [wv_snoc, List.length_append, List.length_singleton, Nat.add_sub_cancel]
    have : BB ^ l.length * 1 ≤ BB ^ l.length * a := Nat.mul_le_mul_left _ (by omega)
    omega
theorem norm_len_lt (a b : List Nat) (ha : Norm a) (hb : Norm b) (h : a.length < b.length) : wv a < wv b := by
  have h1 := wv_lt a ha.1
  have h2 := norm_pos b hb (fun e => by subst e; simp at h)
  have h3 : BB ^ a.length ≤ BB ^ (b.length - 1) := Nat.pow_le_pow_right BB_pos (by omega)
  omega
theorem norm_zero (l : List Nat) (h : Norm l) (h0 : wv l = 0) : l = [] := by
  apply Decidable.byContradiction
  intro hne
  have := norm_pos l h hne
  have := BBp_pos (l.length - 1)
  omega
theorem wv_inj (a b : List Nat) (hl : a.length = b.length) (ha : Ws a) (hb : Ws b) (h : wv a = wv b) : a = b := by
  induction a generalizing b with
  | nil => match b, hl with | [], _ => rfl
  | cons x r ih =>
    match b, hl with
    | y :: s, hl =>
      have hx := ha x (by simp)
      have hy := hb y (by simp)
      rw [wv_cons, wv_cons] at h
      have h1 : x = y := by
        have := congrArg (· % BB) h
        simpa [Nat.mod_eq_of_lt hx, Nat.mod_eq_of_lt hy] using this
      subst h1
      have h2 : wv r = wv s := Nat.eq_of_mul_eq_mul_left BB_pos (by omega)
      rw [ih s (by simpa using hl) (fun z hz => ha z (by simp [hz])) (fun z hz => hb z (by simp [hz])) h2]
theorem norm_inj (a b : List Nat) (ha : Norm a) (hb : Norm b) (h : wv a = wv b) : a = b := by
  refine wv_inj a b ?_ ha.1 hb.1 h
  rcases Nat.lt_trichotomy a.length b.length with h1 | h1 | h1
  · have := norm_len_lt a b ha hb h1; omega
  · exact h1
  · have := norm_len_lt b a hb ha h1; omega
/-- from the top: the first words that differ decide -/
theorem wv_top (a b : List Nat) (hl : a.length = b.length) (ha : Ws a) (i : Nat) (hi : i < a.length) (he : a.drop (i + 1) = b.drop (i + 1)) (h : a[i] < b[i]'(by omega)) : wv a < wv b := by
  rw [wv_split a (i + 1), wv_split b (i + 1), he, hl, wv_take_succ a i hi, wv_take_succ b i (by omega)]
  have h1 := wv_lt (a.take i) (ha.take i)
  rw [List.length_take, Nat.min_eq_left (by omega)] at h1
  have : BB ^ i * (a[i] + 1) ≤ BB ^ i * b[i]'(by omega) := Nat.mul_le_mul_left _ h
  rw [Nat.mul_add, Nat.mul_one] at this
  omega
end Nmx

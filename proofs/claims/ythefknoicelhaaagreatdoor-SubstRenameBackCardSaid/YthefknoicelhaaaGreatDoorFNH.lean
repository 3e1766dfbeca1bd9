/- parseWords of package exact: the words that digits denote. -/
import Derived.Test.YthefknoicelhaaaGreatDoorFNG
namespace Go.Proofs.YthefknoicelhaaaGreatDoor
open Go.RowKit Nmx

theorem size_data (s : ByteArray) : s.data.toList.length = s.size := by rw [Array.length_toList]; rfl
theorem ex_data (s : ByteArray) (a b : Nat) : (s.extract a b).data.toList = (s.data.toList.drop a).take (b - a) := by
  rw [ByteArray.data_extract, Array.toList_extract]
theorem isE (s : ByteArray) : s.toList.isEmpty = decide (s.size = 0) := by
  rw [ByteArray.toList_eq, ← size_data]
  cases s.data.toList <;> simp
/-- a chunk of n digits and what follows -/
theorem chunk_ok {r : ByteArray} {n : Nat} (hn : 0 < n) (h9 : n ≤ 9) (hr : n ≤ r.size) (hd : r.data.toList.all isD = true) :
    Lib.parseUintB 32 (r.extract 0 n).data.toList = .ok (dv (r.data.toList.take n)) ∧ dv (r.data.toList.take n) < 1000000000 ∧ (r.extract n r.size).data.toList = r.data.toList.drop n ∧ (r.extract n r.size).size = r.size - n ∧ (r.extract 0 n).size ≤ 9 ∧
    dv r.data.toList = dv (r.data.toList.take n) * 10 ^ (r.size - n) + dv (r.data.toList.drop n) ∧ (r.data.toList.drop n).all isD = true := by
  have hl := size_data r
  have e : (r.extract 0 n).data.toList = r.data.toList.take n := by rw [ex_data]; simp
  have ht : (r.data.toList.take n).all isD = true := List.all_eq_true.2 fun x hx => List.all_eq_true.1 hd x (List.mem_of_mem_take hx)
  have hdr : (r.data.toList.drop n).all isD = true := List.all_eq_true.2 fun x hx => List.all_eq_true.1 hd x (List.mem_of_mem_drop hx)
  have hlen : (r.data.toList.take n).length = n := by rw [List.length_take]; omega
  have hp : 10 ^ n ≤ 10 ^ 9 := Nat.pow_le_pow_right (by omega) h9
  have hlt := dv_lt _ ht
  rw [hlen] at hlt
  refine ⟨by rw [e]; exact parseU_ok 32 _ ht (fun h => by rw [h] at hlen; simp at hlen; omega) (by omega) (by rw [hlen]; omega), by omega, ?_, by rw [ByteArray.size_extract]; omega, by rw [ByteArray.size_extract]; omega, ?_, hdr⟩
  · rw [ex_data, List.take_of_length_le (by rw [List.length_drop]; omega)]
  · have := dv_append (r.data.toList.take n) (r.data.toList.drop n)
    rw [List.take_append_drop, List.length_drop, hl] at this
    exact this

theorem ownsW_below {w w1 : World} {b : Nat} {v : Value} {l : List Nat} (h : w.ownsRow b 158 1 v l.length (u32s l)) (hb : Below w.heap.size w w1) : w1.ownsRow b 158 1 v l.length (u32s l) := by
  obtain ⟨hx, h | ⟨g, cap, cur, hv, hg, hh, r⟩⟩ := h
  · exact ⟨hx, .inl h⟩
  · exact ⟨hx, .inr ⟨g, cap, cur, hv, hg, (hb.block g (lt_of_heap hh)).trans hh, r⟩⟩
structure PW (s : ByteArray) (B : Nat) (w0 wr : World) (r : ByteArray) (fb : Bool) (v : Value) (l : List Nat) : Prop where
  own : wr.ownsRow B 158 1 v l.length (u32s l)
  ws : Ws l
  bel : Below B w0 wr
  nine : fb = true ∨ r.size % 9 = 0
  dig : r.data.toList.all isD = true
  val : wv l * 10 ^ r.size + dv r.data.toList = dv s.data.toList
  few : l.length + r.size ≤ s.size
  emp : fb = true → l = []
/-- a chunk has been added -/
theorem PW.next {s : ByteArray} {B : Nat} {w0 wr wr' : World} {r : ByteArray} {fb : Bool} {v v' : Value} {l l' : List Nat} (h : PW s B w0 wr r fb v l) {n : Nat} (hn : 0 < n) (h9 : n ≤ 9) (hr : n ≤ r.size) (hmod : (r.size - n) % 9 = 0)
    (hown : wr'.ownsRow B 158 1 v' l'.length (u32s l')) (hw : Ws l') (hb : Below B w0 wr') (hv : wv l' = wv l * 10 ^ n + dv (r.data.toList.take n)) (hl : l'.length ≤ l.length + 1) : PW s B w0 wr' (r.extract n r.size) false v' l' := by
  obtain ⟨c1, c2, c3, c4, c5, c6, c7⟩ := chunk_ok hn h9 hr h.dig
  refine ⟨hown, hw, hb, .inr (by rw [c4]; exact hmod), by rw [c3]; exact c7, ?_, by have := h.few; rw [c4]; omega, (fun h => by cases h)⟩
  rw [c4, c3, hv, ← h.val, c6, Nat.add_mul, Nat.mul_assoc, ← Nat.pow_add, show n + (r.size - n) = r.size by omega]
  omega

section
set_option maxRecDepth 100000
set_option maxHeartbeats 4000000
def WordsOf (x : Nat) (m : Nat) (w : World) (e : Ending) (w' : World) : Prop := ∃ v l, e = .returned v ∧ WV w' v l ∧ wv l = x ∧ l.length ≤ m ∧ Below w.heap.size w w'
theorem parseWords_any (s : ByteArray) (w : World) (hs : s.size ≤ 1000000) (hd : s.data.toList.all isD = true) :
    Calls Tryz.prog 154 #[.string s] w (WordsOf (dv s.data.toList) s.size w) := by
  obtain ⟨i0, hi, hz0, hz1, hz2⟩ := info_parts infoU32
  have HP0 : Hid (PW s w.heap.size w w s true (.slice none 0 0) []) := Lib.hid ⟨World.ownsRow_nil _ _ _ _, Ws.nil, Below.refl _ _, .inl rfl, hd, by simp [wv_nil], by simp, fun _ => rfl⟩
  go_enter Tryz.func154, Tryz.ntmps154
  go_wp2
  generalize hB : w.heap.size = B at *
  have HBe := Lib.hid hB
  clear hB hd
  go_loopw [0, 3, 4] (fun rv v fb wr => ∃ (r : ByteArray) (f : Bool) (l : List Nat), rv = .string r ∧ fb = .bool f ∧ PW s B w wr r f v l) (fun rv _ _ _ => match rv with | .string t => t.size | _ => 0)
  case atStart => exact ⟨s, true, [], rfl, rfl, HP0.out⟩
  case round =>
    clear HP0
    obtain ⟨r, f, l, rfl, rfl, hpw⟩ := hrel
    have HP := Lib.hid hpw
    have hfew := hpw.few
    have hE := isE r
    clear hpw
    by_cases hr0 : r.size = 0
    · have hE1 : r.toList.isEmpty = true := by rw [hE]; simpa using hr0
      have hE2 : r.toList = [] := by simpa using hE1
      have HV : Hid (wv l = dv s.data.toList) := Lib.hid (by
        have := HP.out.val
        have e : r.data.toList = [] := List.length_eq_zero_iff.1 (by rw [size_data]; exact hr0)
        rw [hr0, e, dv_nil] at this
        omega)
      clear hE
      go_wp2
      go_ret
      exact ⟨_, l, rfl, ownsW_ws HP.out.own HP.out.ws, HV.out, by omega, by rw [HBe.out]; exact HP.out.bel⟩
    · have hE1 : r.toList.isEmpty = false := by rw [hE]; simpa using hr0
      have hE2 : ¬ r.toList = [] := fun e => by rw [e] at hE1; cases hE1
      clear hE
      by_cases hm : r.size % 9 = 0
      · have hcz : ((r.size : Int) % 9 != 0) = false := by simp; omega
        have h9 : 9 ≤ r.size := by omega
        cases f
        · obtain ⟨c1, c2, c3, c4, c5, c6, c7⟩ := chunk_ok (r := r) (n := 9) (by omega) (by omega) (by omega) HP.out.dig
          have hpu := Tryz.strconv_ParseUint_10_at32_ok (r.extract 0 9) (by omega) _ c1
          have HN := Lib.hid (fun wr' v' l' => HP.out.next (wr' := wr') (v' := v') (l' := l') (n := 9) (by omega) (by omega) (by omega) (by omega))
          have hsz := c4
          have C4 := Lib.hid c4
          clear c1 c3 c4 c5 c6 c7 hsz
          generalize dv (r.data.toList.take 9) = x at *
          go_wp2_with fail
          refine (hpu _).mono ?_
          rintro e w1 ⟨rfl, hw1⟩
          have hb1 : Below wr.heap.size wr w1 := by
            rcases hw1 with h | h
            · subst h; exact Below.refl _ _
            · subst h; exact Lib.bytesWorld_below _ _ _
          have HOW := Lib.hid (ownsW_below HP.out.own hb1)
          have HBW := Lib.hid (HP.out.bel.trans (hb1.mono (by have := HP.out.bel.size; have := HBe.out; omega)))
          have HLW := Lib.hid HP.out.ws
          clear hw1 hb1 HP hpu
          obtain ⟨a, c, hv⟩ := ownsW_len HOW.out
          subst hv
          obtain ⟨wo, rfl⟩ : ∃ wo : World, wo = w1 := ⟨_, rfl⟩
          have hxb : x < 4294967296 := by omega
          have hx0 : (0 : Int) ≤ (x : Int) := by omega
          go_wp2
          go_loopw [8, 36] (fun cv iv wr => ∃ (k cc : Nat) (l2 : List Nat), k ≤ l.length ∧ iv = .int .i64 k ∧ cv = .int .u64 cc ∧ MacR l l2 1000000000 x k cc ∧ wr.ownsRow B 158 1 (.slice a l.length c) l2.length (u32s l2) ∧ Below B w wr) (fun _ iv _ => l.length - (intOf iv).toNat)
          case atStart => exact ⟨0, x, l, Nat.zero_le _, rfl, rfl, MacR.start l _ _ HLW.out (by rw [BB_eq]; exact hxb), HOW.out, HBW.out⟩
          case round =>
            obtain ⟨k, cc, l2, hk, rfl, rfl, hmac, hown, hbel⟩ := hrel
            have HM := Lib.hid hmac
            have hl2 := hmac.len
            have hcc : cc < 4294967296 := by have := hmac.c1; rw [BB_eq] at this; exact this
            have hcc0 : (0 : Int) ≤ (cc : Int) := by omega
            have HBl := Lib.hid hbel
            have hsz2 := hbel.size
            clear hmac hbel HOW HBW
            have HO1 := Lib.hid hown
            rw [← hl2] at hown
            have HO := Lib.hid hown
            by_cases hlt : k < l.length
            · obtain ⟨g, cap, hv, hg, hcap⟩ := ownsW_shape hown (by omega)
              injection hv with e1 e2 e3
              subst e1 e3
              obtain ⟨hcl, hfz⟩ := ownsW_at hown k (by omega)
              have HST := Lib.hid (ownsW_set hown)
              have hrest := HM.out.rest k (Nat.le_refl _)
              rw [hrest] at hcl
              have hy := at_one (i := k) HLW.out
              have hy0 : (0 : Int) ≤ ((l.getD k 0 : Nat) : Int) := by omega
              have HSP := Lib.hid (fun t ht => HM.out.step HLW.out (by rw [BB_eq]; omega) hlt t ht)
              clear hown hrest e2
              generalize l.getD k 0 = y at *
              rw [hl2] at HST
              go_wp2
              rw [w_div (y * 1000000000 + cc) _ (by omega), w_mod (y * 1000000000 + cc) _ (by omega)]
              refine ⟨⟨k + 1, _, l2.set k ((y * 1000000000 + cc) % BB), by omega, by go_num, rfl, (HSP.out _ rfl).1, HST.out k _, HBl.out.setCell hg _⟩, ?_⟩
              simp [intOf]; omega
            · obtain rfl : k = l.length := by omega
              obtain ⟨d1, d2, d3⟩ := HM.out.done
              have D1 := Lib.hid d1
              have D2 := Lib.hid d2
              have D3 := Lib.hid d3
              clear d1 d2 d3 hown
              have hgs : ∀ g, (Value.slice a l.length c).ownBlock = some g → B ≤ g := fun g hg => (HO1.out.lt g hg).1
              by_cases hc0 : cc = 0
              · have hcb : ((cc : Int) != 0) = false := by simp [hc0]
                have HV : Hid (wv l2 = wv l * 1000000000 + x) := Lib.hid (D2.out hc0)
                clear hc0
                go_wp2
                refine ⟨⟨r.extract 9 r.size, false, l2, rfl, rfl, HN.out _ _ _ HO1.out HM.out.ws HBl.out (by rw [show 10 ^ 9 = 1000000000 from rfl]; exact HV.out) (by omega)⟩, ?_⟩
                show (r.extract 9 r.size).size < r.size; rw [C4.out]; omega
              · have hcb : ((cc : Int) != 0) = true := by simp; omega
                have HV : Hid (wv (l2 ++ [cc]) = wv l * 1000000000 + x) := Lib.hid D1.out
                clear hc0
                have HO2 := HO1.out
                rw [hl2] at HO2
                have HO3 := Lib.hid HO2
                clear HO2
                go_wp2_with (at_builtin; refine wpList_append_own _ rfl (.tmp 57) (.tmp 60) 145 rfl B 158 i0 (.int .u32 0) 1 4 Tryz.underlying145 hi hz0 hz1 hz2 rfl (by decide) _ l.length _ rfl (HO3.out.alloc _) ⟨wr.heap.size, 0, none⟩ 1 1 [.int .u32 cc] rfl rfl (World.news_of_block (cs := #[.int .u32 cc]) (t := 158) (fr := (0, 0)) (heap_alloc_new wr _)) (by simp [Value.oneCell']) (by unfold maxLen; omega) (by omega) (by simp; have := HBe.out; have := HBl.out.size; omega) ?_)
                intro v' w2 hown' hgrow _
                have HB2 := Lib.hid ((HBl.out.alloc (by have := HBe.out; have := HBl.out.size; omega) _).grown hgrow (by simp; have := HBe.out; have := HBl.out.size; omega) hgs)
                have HO4 : Hid (w2.ownsRow B 158 1 v' (l2 ++ [cc]).length (u32s (l2 ++ [cc]))) := Lib.hid (by
                  rw [List.length_append, List.length_singleton, hl2]; simpa [u32s] using hown')
                clear hown' hgrow
                go_wp2
                refine ⟨⟨r.extract 9 r.size, false, l2 ++ [cc], rfl, rfl, HN.out _ _ _ HO4.out D3.out HB2.out (by rw [show 10 ^ 9 = 1000000000 from rfl]; exact HV.out) (by rw [List.length_append, List.length_singleton]; omega)⟩, ?_⟩
                show (r.extract 9 r.size).size < r.size; rw [C4.out]; omega
        · obtain ⟨c1, c2, c3, c4, c5, c6, c7⟩ := chunk_ok (r := r) (n := 9) (by omega) (by omega) (by omega) HP.out.dig
          have hpu := Tryz.strconv_ParseUint_10_at32_ok (r.extract 0 9) (by omega) _ c1
          have HN := Lib.hid (fun wr' v' l' => HP.out.next (wr' := wr') (v' := v') (l' := l') (n := 9) (by omega) (by omega) (by omega) (by omega))
          have hsz := c4
          have C4 := Lib.hid c4
          clear c1 c3 c4 c5 c6 c7 hsz
          generalize dv (r.data.toList.take 9) = x at *
          go_wp2_with fail
          refine (hpu _).mono ?_
          rintro e w1 ⟨rfl, hw1⟩
          have hb1 : Below wr.heap.size wr w1 := by
            rcases hw1 with h | h
            · subst h; exact Below.refl _ _
            · subst h; exact Lib.bytesWorld_below _ _ _
          have HOW := Lib.hid (ownsW_below HP.out.own hb1)
          have HBW := Lib.hid (HP.out.bel.trans (hb1.mono (by have := HP.out.bel.size; have := HBe.out; omega)))
          have HLW := Lib.hid HP.out.ws
          clear hw1 hb1 HP hpu
          obtain ⟨a, c, hv⟩ := ownsW_len HOW.out
          subst hv
          obtain ⟨wo, rfl⟩ : ∃ wo : World, wo = w1 := ⟨_, rfl⟩
          have hxb : x < 4294967296 := by omega
          have hx0 : (0 : Int) ≤ (x : Int) := by omega
          go_wp2
          go_loopw [8, 36] (fun cv iv wr => ∃ (k cc : Nat) (l2 : List Nat), k ≤ l.length ∧ iv = .int .i64 k ∧ cv = .int .u64 cc ∧ MacR l l2 1000000000 x k cc ∧ wr.ownsRow B 158 1 (.slice a l.length c) l2.length (u32s l2) ∧ Below B w wr) (fun _ iv _ => l.length - (intOf iv).toNat)
          case atStart => exact ⟨0, x, l, Nat.zero_le _, rfl, rfl, MacR.start l _ _ HLW.out (by rw [BB_eq]; exact hxb), HOW.out, HBW.out⟩
          case round =>
            obtain ⟨k, cc, l2, hk, rfl, rfl, hmac, hown, hbel⟩ := hrel
            have HM := Lib.hid hmac
            have hl2 := hmac.len
            have hcc : cc < 4294967296 := by have := hmac.c1; rw [BB_eq] at this; exact this
            have hcc0 : (0 : Int) ≤ (cc : Int) := by omega
            have HBl := Lib.hid hbel
            have hsz2 := hbel.size
            clear hmac hbel HOW HBW
            have HO1 := Lib.hid hown
            rw [← hl2] at hown
            have HO := Lib.hid hown
            by_cases hlt : k < l.length
            · obtain ⟨g, cap, hv, hg, hcap⟩ := ownsW_shape hown (by omega)
              injection hv with e1 e2 e3
              subst e1 e3
              obtain ⟨hcl, hfz⟩ := ownsW_at hown k (by omega)
              have HST := Lib.hid (ownsW_set hown)
              have hrest := HM.out.rest k (Nat.le_refl _)
              rw [hrest] at hcl
              have hy := at_one (i := k) HLW.out
              have hy0 : (0 : Int) ≤ ((l.getD k 0 : Nat) : Int) := by omega
              have HSP := Lib.hid (fun t ht => HM.out.step HLW.out (by rw [BB_eq]; omega) hlt t ht)
              clear hown hrest e2
              generalize l.getD k 0 = y at *
              rw [hl2] at HST
              go_wp2
              rw [w_div (y * 1000000000 + cc) _ (by omega), w_mod (y * 1000000000 + cc) _ (by omega)]
              refine ⟨⟨k + 1, _, l2.set k ((y * 1000000000 + cc) % BB), by omega, by go_num, rfl, (HSP.out _ rfl).1, HST.out k _, HBl.out.setCell hg _⟩, ?_⟩
              simp [intOf]; omega
            · obtain rfl : k = l.length := by omega
              obtain ⟨d1, d2, d3⟩ := HM.out.done
              have D1 := Lib.hid d1
              have D2 := Lib.hid d2
              have D3 := Lib.hid d3
              clear d1 d2 d3 hown
              have hgs : ∀ g, (Value.slice a l.length c).ownBlock = some g → B ≤ g := fun g hg => (HO1.out.lt g hg).1
              by_cases hc0 : cc = 0
              · have hcb : ((cc : Int) != 0) = false := by simp [hc0]
                have HV : Hid (wv l2 = wv l * 1000000000 + x) := Lib.hid (D2.out hc0)
                clear hc0
                go_wp2
                refine ⟨⟨r.extract 9 r.size, false, l2, rfl, rfl, HN.out _ _ _ HO1.out HM.out.ws HBl.out (by rw [show 10 ^ 9 = 1000000000 from rfl]; exact HV.out) (by omega)⟩, ?_⟩
                show (r.extract 9 r.size).size < r.size; rw [C4.out]; omega
              · have hcb : ((cc : Int) != 0) = true := by simp; omega
                have HV : Hid (wv (l2 ++ [cc]) = wv l * 1000000000 + x) := Lib.hid D1.out
                clear hc0
                have HO2 := HO1.out
                rw [hl2] at HO2
                have HO3 := Lib.hid HO2
                clear HO2
                go_wp2_with (at_builtin; refine wpList_append_own _ rfl (.tmp 57) (.tmp 60) 145 rfl B 158 i0 (.int .u32 0) 1 4 Tryz.underlying145 hi hz0 hz1 hz2 rfl (by decide) _ l.length _ rfl (HO3.out.alloc _) ⟨wr.heap.size, 0, none⟩ 1 1 [.int .u32 cc] rfl rfl (World.news_of_block (cs := #[.int .u32 cc]) (t := 158) (fr := (0, 0)) (heap_alloc_new wr _)) (by simp [Value.oneCell']) (by unfold maxLen; omega) (by omega) (by simp; have := HBe.out; have := HBl.out.size; omega) ?_)
                intro v' w2 hown' hgrow _
                have HB2 := Lib.hid ((HBl.out.alloc (by have := HBe.out; have := HBl.out.size; omega) _).grown hgrow (by simp; have := HBe.out; have := HBl.out.size; omega) hgs)
                have HO4 : Hid (w2.ownsRow B 158 1 v' (l2 ++ [cc]).length (u32s (l2 ++ [cc]))) := Lib.hid (by
                  rw [List.length_append, List.length_singleton, hl2]; simpa [u32s] using hown')
                clear hown' hgrow
                go_wp2
                refine ⟨⟨r.extract 9 r.size, false, l2 ++ [cc], rfl, rfl, HN.out _ _ _ HO4.out D3.out HB2.out (by rw [show 10 ^ 9 = 1000000000 from rfl]; exact HV.out) (by rw [List.length_append, List.length_singleton]; omega)⟩, ?_⟩
                show (r.extract 9 r.size).size < r.size; rw [C4.out]; omega
      · have hf : f = true := by rcases HP.out.nine with h | h; exact h; exact absurd h hm
        subst hf
        have HL0 : Hid (wv l = 0) := Lib.hid (by rw [HP.out.emp rfl]; rfl)
        obtain ⟨N, hN⟩ : ∃ N, r.size % 9 = N := ⟨_, rfl⟩
        have hNi : (r.size : Int) % 9 = (N : Int) := by omega
        have hcz : ((N : Int) != 0) = true := by simp; omega
        have hN1 : 0 < N := by omega
        have hN2 : N ≤ 9 := by omega
        have hN3 : N ≤ r.size := by omega
        have hN4 : (r.size - N) % 9 = 0 := by omega
        clear hm hN
        obtain ⟨c1, c2, c3, c4, c5, c6, c7⟩ := chunk_ok (r := r) (n := N) (by omega) (by omega) (by omega) HP.out.dig
        have hpu := Tryz.strconv_ParseUint_10_at32_ok (r.extract 0 N) (by omega) _ c1
        have HN := Lib.hid (fun wr' v' l' => HP.out.next (wr' := wr') (v' := v') (l' := l') (n := N) (by omega) (by omega) (by omega) (by omega))
        have hsz := c4
        have C4 := Lib.hid c4
        clear c1 c3 c4 c5 c6 c7 hsz
        generalize dv (r.data.toList.take N) = x at *
        go_wp2_with fail
        refine (hpu _).mono ?_
        rintro e w1 ⟨rfl, hw1⟩
        have hb1 : Below wr.heap.size wr w1 := by
          rcases hw1 with h | h
          · subst h; exact Below.refl _ _
          · subst h; exact Lib.bytesWorld_below _ _ _
        have HOW := Lib.hid (ownsW_below HP.out.own hb1)
        have HBW := Lib.hid (HP.out.bel.trans (hb1.mono (by have := HP.out.bel.size; have := HBe.out; omega)))
        have HLW := Lib.hid HP.out.ws
        clear hw1 hb1 HP hpu
        obtain ⟨a, c, hv⟩ := ownsW_len HOW.out
        subst hv
        obtain ⟨wo, rfl⟩ : ∃ wo : World, wo = w1 := ⟨_, rfl⟩
        have hxb : x < 4294967296 := by omega
        have hx0 : (0 : Int) ≤ (x : Int) := by omega
        go_wp2
        go_loopw [8, 36] (fun cv iv wr => ∃ (k cc : Nat) (l2 : List Nat), k ≤ l.length ∧ iv = .int .i64 k ∧ cv = .int .u64 cc ∧ MacR l l2 1000000000 x k cc ∧ wr.ownsRow B 158 1 (.slice a l.length c) l2.length (u32s l2) ∧ Below B w wr) (fun _ iv _ => l.length - (intOf iv).toNat)
        case atStart => exact ⟨0, x, l, Nat.zero_le _, rfl, rfl, MacR.start l _ _ HLW.out (by rw [BB_eq]; exact hxb), HOW.out, HBW.out⟩
        case round =>
          obtain ⟨k, cc, l2, hk, rfl, rfl, hmac, hown, hbel⟩ := hrel
          have HM := Lib.hid hmac
          have hl2 := hmac.len
          have hcc : cc < 4294967296 := by have := hmac.c1; rw [BB_eq] at this; exact this
          have hcc0 : (0 : Int) ≤ (cc : Int) := by omega
          have HBl := Lib.hid hbel
          have hsz2 := hbel.size
          clear hmac hbel HOW HBW
          have HO1 := Lib.hid hown
          rw [← hl2] at hown
          have HO := Lib.hid hown
          by_cases hlt : k < l.length
          · obtain ⟨g, cap, hv, hg, hcap⟩ := ownsW_shape hown (by omega)
            injection hv with e1 e2 e3
            subst e1 e3
            obtain ⟨hcl, hfz⟩ := ownsW_at hown k (by omega)
            have HST := Lib.hid (ownsW_set hown)
            have hrest := HM.out.rest k (Nat.le_refl _)
            rw [hrest] at hcl
            have hy := at_one (i := k) HLW.out
            have hy0 : (0 : Int) ≤ ((l.getD k 0 : Nat) : Int) := by omega
            have HSP := Lib.hid (fun t ht => HM.out.step HLW.out (by rw [BB_eq]; omega) hlt t ht)
            clear hown hrest e2
            generalize l.getD k 0 = y at *
            rw [hl2] at HST
            go_wp2
            rw [w_div (y * 1000000000 + cc) _ (by omega), w_mod (y * 1000000000 + cc) _ (by omega)]
            refine ⟨⟨k + 1, _, l2.set k ((y * 1000000000 + cc) % BB), by omega, by go_num, rfl, (HSP.out _ rfl).1, HST.out k _, HBl.out.setCell hg _⟩, ?_⟩
            simp [intOf]; omega
          · obtain rfl : k = l.length := by omega
            obtain ⟨d1, d2, d3⟩ := HM.out.done
            have D1 := Lib.hid d1
            have D2 := Lib.hid d2
            have D3 := Lib.hid d3
            clear d1 d2 d3 hown
            have hgs : ∀ g, (Value.slice a l.length c).ownBlock = some g → B ≤ g := fun g hg => (HO1.out.lt g hg).1
            by_cases hc0 : cc = 0
            · have hcb : ((cc : Int) != 0) = false := by simp [hc0]
              have HV : Hid (wv l2 = wv l * 1000000000 + x) := Lib.hid (D2.out hc0)
              clear hc0
              go_wp2
              refine ⟨⟨r.extract N r.size, false, l2, rfl, rfl, HN.out _ _ _ HO1.out HM.out.ws HBl.out (by rw [HV.out, HL0.out, Nat.zero_mul, Nat.zero_mul]) (by omega)⟩, ?_⟩
              show (r.extract N r.size).size < r.size; rw [C4.out]; omega
            · have hcb : ((cc : Int) != 0) = true := by simp; omega
              have HV : Hid (wv (l2 ++ [cc]) = wv l * 1000000000 + x) := Lib.hid D1.out
              clear hc0
              have HO2 := HO1.out
              rw [hl2] at HO2
              have HO3 := Lib.hid HO2
              clear HO2
              go_wp2_with (at_builtin; refine wpList_append_own _ rfl (.tmp 57) (.tmp 60) 145 rfl B 158 i0 (.int .u32 0) 1 4 Tryz.underlying145 hi hz0 hz1 hz2 rfl (by decide) _ l.length _ rfl (HO3.out.alloc _) ⟨wr.heap.size, 0, none⟩ 1 1 [.int .u32 cc] rfl rfl (World.news_of_block (cs := #[.int .u32 cc]) (t := 158) (fr := (0, 0)) (heap_alloc_new wr _)) (by simp [Value.oneCell']) (by unfold maxLen; omega) (by omega) (by simp; have := HBe.out; have := HBl.out.size; omega) ?_)
              intro v' w2 hown' hgrow _
              have HB2 := Lib.hid ((HBl.out.alloc (by have := HBe.out; have := HBl.out.size; omega) _).grown hgrow (by simp; have := HBe.out; have := HBl.out.size; omega) hgs)
              have HO4 : Hid (w2.ownsRow B 158 1 v' (l2 ++ [cc]).length (u32s (l2 ++ [cc]))) := Lib.hid (by
                rw [List.length_append, List.length_singleton, hl2]; simpa [u32s] using hown')
              clear hown' hgrow
              go_wp2
              refine ⟨⟨r.extract N r.size, false, l2 ++ [cc], rfl, rfl, HN.out _ _ _ HO4.out D3.out HB2.out (by rw [HV.out, HL0.out, Nat.zero_mul, Nat.zero_mul]) (by rw [List.length_append, List.length_singleton]; omega)⟩, ?_⟩
              show (r.extract N r.size).size < r.size; rw [C4.out]; omega
end
end Go.Proofs.YthefknoicelhaaaGreatDoor
namespace Go.Proofs.YthefknoicelhaaaGreatDoor
open Go.RowKit Nmx

theorem end_ib {fn : Func} {t t' : Tmp} {a : Act} {w w2 : World} {R : Nat} {z s : Int} {b bb : Bool} {ao : Option Addr} {n c : Nat} {x0 x1 x2 : Value} {Q : Ending → World → Prop} (hres : fn.results = #[.cell t 147, .tmp t']) (hd : a.defers = []) (ht : a.tmps.getD t undef = .pointer (some ⟨R, 0, none⟩)) (ht' : a.tmps.getD t' undef = .bool bb)
    (hR : w2.heap[R]? = some (.cells #[x0, x1, x2] 147 (0, 0))) (hv : IV w2 (.agg #[.int .i64 s, .bool b, .slice ao n c]) z) (hb : Below w.heap.size w w2) (hRB : w.heap.size ≤ R)
    (hQ : ∀ w3 v, IV w3 v z → Below w.heap.size w w3 → Q (.returned (.tuple #[v, .bool bb])) w3) :
    bodyPost Tryz.prog fn Q .ret a (((w2.setCell ⟨R, 0, none⟩ (.int .i64 s)).setCell ⟨R, 1, none⟩ (.bool b)).setCell ⟨R, 2, none⟩ (.slice ao n c)) := by
  have h3 := heap_set (heap_set (heap_set hR 0 (.int .i64 s)) 1 (.bool b)) 2 (.slice ao n c)
  have k0 := heap_cell h3 0
  have k1 := heap_cell h3 1
  have k2 := heap_cell h3 2
  have hiv := hv.set3 hR (.int .i64 s) (.bool b) (.slice ao n c)
  have hbl := ((hb.setCell (show w.heap.size ≤ (⟨R, 0, none⟩ : Addr).block from hRB) (.int .i64 s)).setCell (show w.heap.size ≤ (⟨R, 1, none⟩ : Addr).block from hRB) (.bool b)).setCell (show w.heap.size ≤ (⟨R, 2, none⟩ : Addr).block from hRB) (.slice ao n c)
  unfold set3 at hiv
  generalize ((w2.setCell ⟨R, 0, none⟩ (.int .i64 s)).setCell ⟨R, 1, none⟩ (.bool b)).setCell ⟨R, 2, none⟩ (.slice ao n c) = w3 at *
  simp at k0 k1 k2
  refine bodyPost_ret (v := .tuple #[.agg #[.int .i64 s, .bool b, .slice ao n c], .bool bb]) ?_ hd (hQ w3 _ hiv hbl)
  have h1 : a.tmps[t]?.getD undef = .pointer (some ⟨R, 0, none⟩) := by simpa using ht
  have h2 : a.tmps[t']?.getD undef = .bool bb := by simpa using ht'
  simp [results, hres, go_sem, h1, h2, k0, k1, k2]
/-- the same where the result's block is new and already holds what is returned -/
theorem end_ib0 {fn : Func} {t t' : Tmp} {a : Act} {w w2 : World} {R : Nat} {z s : Int} {b bb : Bool} {ao : Option Addr} {n c : Nat} {Q : Ending → World → Prop} (hres : fn.results = #[.cell t 147, .tmp t']) (hd : a.defers = []) (ht : a.tmps.getD t undef = .pointer (some ⟨R, 0, none⟩)) (ht' : a.tmps.getD t' undef = .bool bb)
    (hR : w2.heap[R]? = some (.cells #[.int .i64 s, .bool b, .slice ao n c] 147 (0, 0))) (hv : IV w2 (.agg #[.int .i64 s, .bool b, .slice ao n c]) z) (hb : Below w.heap.size w w2)
    (hQ : ∀ w3 v, IV w3 v z → Below w.heap.size w w3 → Q (.returned (.tuple #[v, .bool bb])) w3) : bodyPost Tryz.prog fn Q .ret a w2 := by
  have k0 := heap_cell hR 0
  have k1 := heap_cell hR 1
  have k2 := heap_cell hR 2
  simp at k0 k1 k2
  refine bodyPost_ret (v := .tuple #[.agg #[.int .i64 s, .bool b, .slice ao n c], .bool bb]) ?_ hd (hQ w2 _ hv hb)
  have h1 : a.tmps[t]?.getD undef = .pointer (some ⟨R, 0, none⟩) := by simpa using ht
  have h2 : a.tmps[t']?.getD undef = .bool bb := by simpa using ht'
  simp [results, hres, go_sem, h1, h2, k0, k1, k2]

def ParseIntPost (l : List UInt8) (w : World) (e : Ending) (w' : World) : Prop := ∃ v, e = .returned (.tuple #[v, .bool (intF l).isSome]) ∧ IV w' v ((intF l).getD 0) ∧ Below w.heap.size w w'
theorem pip_none {l : List UInt8} {w : World} (h : intF l = none) : ∀ w3 v, IV w3 v 0 → Below w.heap.size w w3 → ParseIntPost l w (.returned (.tuple #[v, .bool false])) w3 := fun w3 v h1 h2 => ⟨v, by rw [h]; rfl, by rw [h]; exact h1, h2⟩
theorem pip_some {l : List UInt8} {w : World} {z : Int} (h : intF l = some z) : ∀ w3 v, IV w3 v z → Below w.heap.size w w3 → ParseIntPost l w (.returned (.tuple #[v, .bool true])) w3 := fun w3 v h1 h2 => ⟨v, by rw [h]; rfl, by rw [h]; exact h1, h2⟩
theorem byte_at (s : ByteArray) (k : Nat) (h : k < s.size) : s.data.toList[k]? = some s[k] := by
  rw [List.getElem?_eq_getElem (by rw [size_data]; exact h)]; rfl
theorem take_all (s : ByteArray) (k : Nat) (h : k < s.size) (ha : (s.data.toList.take k).all isD = true) (hc : isD s[k] = true) : (s.data.toList.take (k + 1)).all isD = true := by
  rw [List.take_add_one, byte_at s k h, List.all_append, ha]; simpa using hc
theorem not_all (s : ByteArray) (k : Nat) (h : k < s.size) (hc : isD s[k] = false) : s.data.toList.all isD = false := by
  rw [List.all_eq_false]
  exact ⟨s[k], List.mem_of_getElem? (byte_at s k h), by rw [hc]; simp⟩
theorem zeroIV (w : World) : IV w (.agg #[.int .i64 0, .bool false, .slice none 0 0]) 0 := small_iv w (by unfold Small; omega)
theorem intF_of {l d : List UInt8} {b : Bool} (hb : sgB l = b) (hd : body l = d) : (d = [] → intF l = none) ∧ (d.all isD = false → intF l = none) ∧ (d ≠ [] → d.all isD = true → intF l = some (sgn b (dv d))) := by
  unfold intF
  rw [hb, hd]
  refine ⟨fun h => by rw [if_pos (.inl h)], fun h => by rw [if_pos (.inr h)], fun h1 h2 => by rw [if_neg (by rintro (h | h); exact h1 h; rw [h2] at h; cases h)]⟩

section
set_option maxRecDepth 100000
set_option maxHeartbeats 4000000
theorem parseInt_neg (s r : ByteArray) (w : World) (hs : s.size ≤ 1000000) (h0 : 0 < s.size) (h45 : s[0].toNat = 45) (hsg : sgB s.data.toList = true) (hbd : body s.data.toList = r.data.toList) :
    Calls Tryz.prog 147 #[.string s] w (ParseIntPost s.data.toList w) := by
  obtain rfl : r = s.extract 1 s.size := by
    apply ByteArray.ext
    apply Array.toList_inj.1
    rw [← hbd, ex_data]
    unfold body
    rw [hsg, if_pos rfl, List.take_of_length_le (by rw [List.length_drop, size_data]; exact Nat.le_refl _)]
    exact (List.drop_one).symm
  have h45b : ((s[0].toNat : Int) == 45) = true := by simp [h45]
  have hsz : (s.extract 1 s.size).size = s.size - 1 := by rw [ByteArray.size_extract]; omega
  have hszr : (s.extract 1 s.size).size ≤ 1000000 := by omega
  clear h45
  generalize hre : s.extract 1 s.size = r at *
  obtain ⟨i1, i2, i3⟩ := intF_of hsg hbd
  have I1 := Lib.hid i1
  have I2 := Lib.hid i2
  have I3 := Lib.hid i3
  have hE := isE r
  clear i1 i2 i3 hsg hbd
  have hbel : Below w.heap.size w (w.alloc (.cells #[.int .i64 0, .bool false, .slice none 0 0] 147)) := (Below.refl _ _).alloc (Nat.le_refl _) _
  have HBL := Lib.hid hbel
  have HRR : Hid ((w.alloc (.cells #[.int .i64 0, .bool false, .slice none 0 0] 147)).heap[w.heap.size]? = some (.cells #[.int .i64 0, .bool false, .slice none 0 0] 147 (0, 0))) := Lib.hid (heap_alloc_new w _)
  clear hbel
  by_cases hr0 : r.size = 0
  · have hE1 : r.toList.isEmpty = true := by rw [hE]; simpa using hr0
    have hE2 : r.toList = [] := by simpa using hE1
    have HN := Lib.hid (I1.out (List.length_eq_zero_iff.1 (by rw [size_data]; exact hr0)))
    clear hE
    go_enter Tryz.func147, Tryz.ntmps147
    go_wp2
    exact end_ib0 Tryz.results147 rfl rfl rfl HRR.out (zeroIV _) HBL.out (pip_none HN.out)
  · have hE1 : r.toList.isEmpty = false := by rw [hE]; simpa using hr0
    have hE2 : ¬ r.toList = [] := fun e => by rw [e] at hE1; cases hE1
    have hne : r.data.toList ≠ [] := fun e => by have := size_data r; rw [e] at this; simp at this; omega
    have HNE := Lib.hid hne
    clear hE hne
    go_enter Tryz.func147, Tryz.ntmps147
    go_wp2_with fail
    go_loop [6] (fun iv => ∃ k : Nat, k ≤ r.size ∧ iv = .int .i64 k ∧ (r.data.toList.take k).all isD = true) (fun iv => r.size - (intOf iv).toNat)
    case atStart => exact ⟨0, Nat.zero_le _, rfl, rfl⟩
    case round =>
      obtain ⟨k, hk, rfl, ha⟩ := hrel
      have HA := Lib.hid ha
      clear ha
      by_cases hlt : k < r.size
      · by_cases hd : isD r[k] = true
        · have h1 : ¬ (r[k].toNat : Int) < 48 := by have := isD_iff.1 hd; omega
          have h2 : ¬ (57 : Int) < (r[k].toNat : Int) := by have := isD_iff.1 hd; omega
          have HD := Lib.hid (take_all r k hlt HA.out hd)
          clear hd
          go_wp2_with fail
          go_round
          case rel => exact ⟨k + 1, by omega, by go_num, HD.out⟩
          case measure => simp [intOf]; omega
        · have hd' : isD r[k] = false := by simpa using hd
          have HN := Lib.hid (I2.out (not_all r k hlt hd'))
          by_cases h1 : (r[k].toNat : Int) < 48
          · clear hd hd'
            go_wp2_with fail
            exact end_ib0 Tryz.results147 rfl rfl rfl HRR.out (zeroIV _) HBL.out (pip_none HN.out)
          · have h2 : (57 : Int) < (r[k].toNat : Int) := by simp [isD] at hd'; omega
            clear hd hd'
            go_wp2_with fail
            exact end_ib0 Tryz.results147 rfl rfl rfl HRR.out (zeroIV _) HBL.out (pip_none HN.out)
      · have hall : r.data.toList.all isD = true := by
          have := HA.out
          rwa [List.take_of_length_le (by rw [size_data]; omega)] at this
        have HS := Lib.hid (I3.out HNE.out hall)
        have HAL := Lib.hid hall
        by_cases h18 : r.size ≤ 18
        · obtain ⟨p1, p2⟩ := parseI_ok r.data.toList hall HNE.out (by rw [size_data]; exact h18)
          have hpi := Tryz.strconv_ParseInt_10_at64_ok r (by omega) _ p1
          clear p1 hall
          generalize dv r.data.toList = x at *
          have hx0 : (0 : Int) ≤ (x : Int) := by omega
          have hx1 : (x : Int) ≤ 9223372036854775807 := by omega
          go_wp2_with fail
          refine (hpi _).mono ?_
          rintro e w1 ⟨rfl, hw1⟩
          have hb1 : Below (w.alloc (.cells #[.int .i64 0, .bool false, .slice none 0 0] 147)).heap.size (w.alloc (.cells #[.int .i64 0, .bool false, .slice none 0 0] 147)) w1 := by
            rcases hw1 with h | ⟨t, h⟩
            · subst h; exact Below.refl _ _
            · subst h; exact Lib.bytesWorld_below _ _ _
          have HB1 := Lib.hid (HBL.out.trans (hb1.mono (by simp)))
          have HR1 := Lib.hid ((hb1.block w.heap.size (by simp)).trans HRR.out)
          obtain ⟨r0, r1, r2, r3, r4, r5⟩ := Res.cells HR1.out
          clear hw1 hb1 hpi
          have hsx : Small (sgn true x) := sgn_small (by omega)
          go_wp2_with fail
          exact end_ib Tryz.results147 rfl rfl rfl HR1.out (small_iv _ hsx) HB1.out (Nat.le_refl _) (pip_some HS.out)
        · have hpw := fun W => parseWords_any r W (by omega) hall
          clear hall
          go_wp2_with fail
          refine (hpw _).mono ?_
          rintro e w1 ⟨v1, l1, rfl, hv1, hl1, hll, hb1⟩
          have HB1 := Lib.hid (HBL.out.trans (hb1.mono (by simp)))
          have HR1 := Lib.hid ((hb1.block w.heap.size (by simp)).trans HRR.out)
          have hfp := fromParts_any true v1 l1 w1 hv1 (by omega)
          rw [hl1] at hfp
          clear hb1 hv1 hl1 hpw
          go_wp2_with fail
          refine hfp.mono ?_
          rintro e w2 ⟨v2, rfl, hv2, hb2⟩
          have HV2 := Lib.hid hv2
          obtain ⟨s2, b2, a2, n2, c2, rfl⟩ := iv_form hv2
          have HB2 := Lib.hid (HB1.out.trans (hb2.mono HB1.out.size))
          have HR2 := Lib.hid ((hb2.block w.heap.size (lt_of_heap HR1.out)).trans HR1.out)
          obtain ⟨r0, r1, r2, r3, r4, r5⟩ := Res.cells HR2.out
          clear hb2 hv2 hfp
          go_wp2_with fail
          exact end_ib Tryz.results147 rfl rfl rfl HR2.out HV2.out HB2.out (Nat.le_refl _) (pip_some HS.out)
theorem parseInt_pos (s r : ByteArray) (w : World) (hs : s.size ≤ 1000000) (h0 : s.size = 0 ∨ (∃ h : 0 < s.size, s[0].toNat ≠ 45)) (hsg : sgB s.data.toList = false) (hbd : body s.data.toList = r.data.toList) :
    Calls Tryz.prog 147 #[.string s] w (ParseIntPost s.data.toList w) := by
  obtain rfl : r = s := by
    apply ByteArray.ext
    apply Array.toList_inj.1
    rw [← hbd]
    unfold body
    rw [hsg]; rfl
  have h45b : ∀ h : 0 < r.size, ((r[0].toNat : Int) == 45) = false := fun h => by
    rcases h0 with h1 | ⟨h1, h2⟩
    · omega
    · simp; omega
  clear h0
  obtain ⟨i1, i2, i3⟩ := intF_of hsg hbd
  have I1 := Lib.hid i1
  have I2 := Lib.hid i2
  have I3 := Lib.hid i3
  have hE := isE r
  clear i1 i2 i3 hsg hbd
  have hbel : Below w.heap.size w (w.alloc (.cells #[.int .i64 0, .bool false, .slice none 0 0] 147)) := (Below.refl _ _).alloc (Nat.le_refl _) _
  have HBL := Lib.hid hbel
  have HRR : Hid ((w.alloc (.cells #[.int .i64 0, .bool false, .slice none 0 0] 147)).heap[w.heap.size]? = some (.cells #[.int .i64 0, .bool false, .slice none 0 0] 147 (0, 0))) := Lib.hid (heap_alloc_new w _)
  clear hbel
  by_cases hr0 : r.size = 0
  · have hE1 : r.toList.isEmpty = true := by rw [hE]; simpa using hr0
    have hE2 : r.toList = [] := by simpa using hE1
    have HN := Lib.hid (I1.out (List.length_eq_zero_iff.1 (by rw [size_data]; exact hr0)))
    clear hE
    go_enter Tryz.func147, Tryz.ntmps147
    go_wp2
    exact end_ib0 Tryz.results147 rfl rfl rfl HRR.out (zeroIV _) HBL.out (pip_none HN.out)
  · have hE1 : r.toList.isEmpty = false := by rw [hE]; simpa using hr0
    have hE2 : ¬ r.toList = [] := fun e => by rw [e] at hE1; cases hE1
    have hne : r.data.toList ≠ [] := fun e => by have := size_data r; rw [e] at this; simp at this; omega
    have HNE := Lib.hid hne
    clear hE hne
    go_enter Tryz.func147, Tryz.ntmps147
    go_wp2_with fail
    go_loop [6] (fun iv => ∃ k : Nat, k ≤ r.size ∧ iv = .int .i64 k ∧ (r.data.toList.take k).all isD = true) (fun iv => r.size - (intOf iv).toNat)
    case atStart => exact ⟨0, Nat.zero_le _, rfl, rfl⟩
    case round =>
      obtain ⟨k, hk, rfl, ha⟩ := hrel
      have HA := Lib.hid ha
      clear ha
      by_cases hlt : k < r.size
      · by_cases hd : isD r[k] = true
        · have h1 : ¬ (r[k].toNat : Int) < 48 := by have := isD_iff.1 hd; omega
          have h2 : ¬ (57 : Int) < (r[k].toNat : Int) := by have := isD_iff.1 hd; omega
          have HD := Lib.hid (take_all r k hlt HA.out hd)
          clear hd
          go_wp2_with fail
          go_round
          case rel => exact ⟨k + 1, by omega, by go_num, HD.out⟩
          case measure => simp [intOf]; omega
        · have hd' : isD r[k] = false := by simpa using hd
          have HN := Lib.hid (I2.out (not_all r k hlt hd'))
          by_cases h1 : (r[k].toNat : Int) < 48
          · clear hd hd'
            go_wp2_with fail
            exact end_ib0 Tryz.results147 rfl rfl rfl HRR.out (zeroIV _) HBL.out (pip_none HN.out)
          · have h2 : (57 : Int) < (r[k].toNat : Int) := by simp [isD] at hd'; omega
            clear hd hd'
            go_wp2_with fail
            exact end_ib0 Tryz.results147 rfl rfl rfl HRR.out (zeroIV _) HBL.out (pip_none HN.out)
      · have hall : r.data.toList.all isD = true := by
          have := HA.out
          rwa [List.take_of_length_le (by rw [size_data]; omega)] at this
        have HS := Lib.hid (I3.out HNE.out hall)
        have HAL := Lib.hid hall
        by_cases h18 : r.size ≤ 18
        · obtain ⟨p1, p2⟩ := parseI_ok r.data.toList hall HNE.out (by rw [size_data]; exact h18)
          have hpi := Tryz.strconv_ParseInt_10_at64_ok r (by omega) _ p1
          clear p1 hall
          generalize dv r.data.toList = x at *
          have hx0 : (0 : Int) ≤ (x : Int) := by omega
          have hx1 : (x : Int) ≤ 9223372036854775807 := by omega
          go_wp2_with fail
          refine (hpi _).mono ?_
          rintro e w1 ⟨rfl, hw1⟩
          have hb1 : Below (w.alloc (.cells #[.int .i64 0, .bool false, .slice none 0 0] 147)).heap.size (w.alloc (.cells #[.int .i64 0, .bool false, .slice none 0 0] 147)) w1 := by
            rcases hw1 with h | ⟨t, h⟩
            · subst h; exact Below.refl _ _
            · subst h; exact Lib.bytesWorld_below _ _ _
          have HB1 := Lib.hid (HBL.out.trans (hb1.mono (by simp)))
          have HR1 := Lib.hid ((hb1.block w.heap.size (by simp)).trans HRR.out)
          obtain ⟨r0, r1, r2, r3, r4, r5⟩ := Res.cells HR1.out
          clear hw1 hb1 hpi
          have hsx : Small (sgn false x) := sgn_small (by omega)
          go_wp2_with fail
          exact end_ib Tryz.results147 rfl rfl rfl HR1.out (small_iv _ hsx) HB1.out (Nat.le_refl _) (pip_some HS.out)
        · have hpw := fun W => parseWords_any r W (by omega) hall
          clear hall
          go_wp2_with fail
          refine (hpw _).mono ?_
          rintro e w1 ⟨v1, l1, rfl, hv1, hl1, hll, hb1⟩
          have HB1 := Lib.hid (HBL.out.trans (hb1.mono (by simp)))
          have HR1 := Lib.hid ((hb1.block w.heap.size (by simp)).trans HRR.out)
          have hfp := fromParts_any false v1 l1 w1 hv1 (by omega)
          rw [hl1] at hfp
          clear hb1 hv1 hl1 hpw
          go_wp2_with fail
          refine hfp.mono ?_
          rintro e w2 ⟨v2, rfl, hv2, hb2⟩
          have HV2 := Lib.hid hv2
          obtain ⟨s2, b2, a2, n2, c2, rfl⟩ := iv_form hv2
          have HB2 := Lib.hid (HB1.out.trans (hb2.mono HB1.out.size))
          have HR2 := Lib.hid ((hb2.block w.heap.size (lt_of_heap HR1.out)).trans HR1.out)
          obtain ⟨r0, r1, r2, r3, r4, r5⟩ := Res.cells HR2.out
          clear hb2 hv2 hfp
          go_wp2_with fail
          exact end_ib Tryz.results147 rfl rfl rfl HR2.out HV2.out HB2.out (Nat.le_refl _) (pip_some HS.out)
theorem parseInt_any (s : ByteArray) (w : World) (hs : s.size ≤ 1000000) : Calls Tryz.prog 147 #[.string s] w (ParseIntPost s.data.toList w) := by
  have hl := size_data s
  by_cases h0 : 0 < s.size
  · have hh : s.data.toList.head? = some s[0] := by rw [List.head?_eq_getElem?]; exact byte_at s 0 h0
    by_cases h45 : s[0].toNat = 45
    · have e : s[0] = 45 := UInt8.toNat_inj.1 h45
      have hsg : sgB s.data.toList = true := by unfold sgB; rw [hh, e]; rfl
      refine parseInt_neg s (s.extract 1 s.size) w hs h0 h45 hsg ?_
      unfold body
      rw [hsg, if_pos rfl, ex_data, List.take_of_length_le (by rw [List.length_drop, hl]; exact Nat.le_refl _), List.drop_one]
    · have hsg : sgB s.data.toList = false := by
        unfold sgB; rw [hh]
        simp only [beq_eq_false_iff_ne, ne_eq, Option.some.injEq]
        intro e; rw [e] at h45; exact h45 rfl
      refine parseInt_pos s s w hs (.inr ⟨h0, h45⟩) hsg ?_
      unfold body; rw [hsg]; rfl
  · have hnil : s.data.toList = [] := List.length_eq_zero_iff.1 (by omega)
    have hsg : sgB s.data.toList = false := by rw [hnil]; rfl
    refine parseInt_pos s s w hs (.inl (by omega)) hsg ?_
    unfold body; rw [hsg]; rfl
end
end Go.Proofs.YthefknoicelhaaaGreatDoor
namespace Go.Proofs.YthefknoicelhaaaGreatDoor
open Go.RowKit Nmx

theorem trim_minus (l : List UInt8) : Lib.trimPrefix l [45] = body l := by
  unfold Lib.trimPrefix body sgB
  cases l with
  | nil => rfl
  | cons c r =>
    by_cases h : c = 45
    · subst h; simp [Lib.hasPrefix]
    · have h2 : (some c == some (45 : UInt8)) = false := by simp [h]
      have h3 : Lib.hasPrefix (c :: r) [45] = false := by
        have e : Lib.hasPrefix (c :: r) [45] = decide (c = 45) := by
          show ((45 : UInt8) == c && true) = decide (c = 45)
          rw [Bool.and_true, Bool.eq_iff_iff]
          simp only [beq_iff_eq, decide_eq_true_eq]
          exact eq_comm
        rw [e]; simpa using h
      rw [h3, List.head?_cons, h2]; rfl
def CanonPost (l : List UInt8) (w : World) (e : Ending) (w' : World) : Prop := ∃ v, e = .returned (.tuple #[v, .bool (canonF l).isSome]) ∧ IV w' v ((canonF l).getD 0) ∧ Below w.heap.size w w'
theorem cp_none {l : List UInt8} {w : World} (h : canonF l = none) : ∀ w3 v, IV w3 v 0 → Below w.heap.size w w3 → CanonPost l w (.returned (.tuple #[v, .bool false])) w3 := fun w3 v h1 h2 => ⟨v, by rw [h]; rfl, by rw [h]; exact h1, h2⟩
theorem cp_same {l : List UInt8} {w : World} (h : canonF l = intF l) : ∀ w3 v, IV w3 v ((intF l).getD 0) → Below w.heap.size w w3 → CanonPost l w (.returned (.tuple #[v, .bool (intF l).isSome])) w3 := fun w3 v h1 h2 => ⟨v, by rw [h], by rw [h]; exact h1, h2⟩

section
set_option maxRecDepth 100000
set_option maxHeartbeats 4000000
theorem canonicalInt_any (s : ByteArray) (w : World) (hs : s.size ≤ 1000000) : Calls Tryz.prog 133 #[.string s] w (CanonPost s.data.toList w) := by
  have htp := fun W => Tryz.strings_TrimPrefix s ⟨#[45]⟩ W
  have ht : Lib.trimPrefix s.data.toList (⟨#[45]⟩ : ByteArray).data.toList = body s.data.toList := trim_minus _
  rw [ht] at htp
  clear ht
  have hpi := fun W => parseInt_any s W hs
  have hbel : Below w.heap.size w (w.alloc (.cells #[.int .i64 0, .bool false, .slice none 0 0] 147)) := (Below.refl _ _).alloc (Nat.le_refl _) _
  have HBL := Lib.hid hbel
  have HRR : Hid ((w.alloc (.cells #[.int .i64 0, .bool false, .slice none 0 0] 147)).heap[w.heap.size]? = some (.cells #[.int .i64 0, .bool false, .slice none 0 0] 147 (0, 0))) := Lib.hid (heap_alloc_new w _)
  have HCF : Hid (canonF s.data.toList = if body s.data.toList = [] ∨ ((body s.data.toList).headD 0 = 48 ∧ s.data.toList ≠ [48]) then none else intF s.data.toList) := Lib.hid rfl
  clear hbel
  obtain ⟨d, hd⟩ : ∃ d : ByteArray, (⟨(body s.data.toList).toArray⟩ : ByteArray) = d := ⟨_, rfl⟩
  rw [hd] at htp
  have hdl : d.data.toList = body s.data.toList := by rw [← hd]
  rw [← hdl] at HCF
  have hE := isE d
  clear hd hdl
  by_cases hd0 : d.size = 0
  · have hE1 : d.toList.isEmpty = true := by rw [hE]; simpa using hd0
    have hE2 : d.toList = [] := by simpa using hE1
    have HN : Hid (canonF s.data.toList = none) := Lib.hid (by rw [HCF.out, if_pos (.inl (List.length_eq_zero_iff.1 (by rw [size_data]; exact hd0)))])
    clear hE
    go_enter Tryz.func133, Tryz.ntmps133
    go_wp2_with fail
    refine (htp _).mono ?_
    rintro e w1 ⟨rfl, rfl⟩
    go_wp2_with fail
    exact end_ib0 Tryz.results133 rfl rfl rfl HRR.out (zeroIV _) HBL.out (cp_none HN.out)
  · have hE1 : d.toList.isEmpty = false := by rw [hE]; simpa using hd0
    have hE2 : ¬ d.toList = [] := fun e => by rw [e] at hE1; cases hE1
    have hd1 : 0 < d.size := by omega
    have hne : d.data.toList ≠ [] := fun e => by have := size_data d; rw [e] at this; simp at this; omega
    have hh : d.data.toList.headD 0 = d[0] := by
      have := byte_at d 0 hd1
      rw [← List.head?_eq_getElem?] at this
      rw [List.headD_eq_head?_getD, this]; rfl
    have HNE := Lib.hid hne
    have HH := Lib.hid hh
    clear hE hne hh
    by_cases h48 : d[0].toNat = 48
    · by_cases hz : s.data.toList = [48]
      · have HS : Hid (canonF s.data.toList = intF s.data.toList) := Lib.hid (by rw [HCF.out, if_neg (by rintro (h | h); exact HNE.out h; exact h.2 hz)])
        have hzb : (s.toList == [48]) = true := by rw [ByteArray.toList_eq, hz]; rfl
        have hzb2 : (s.toList != [48]) = false := by rw [ByteArray.toList_eq, hz]; rfl
        have h48b : ((d[0].toNat : Int) == 48) = true := by simp [h48]
        clear h48 hz
        go_enter Tryz.func133, Tryz.ntmps133
        go_wp2_with fail
        refine (htp _).mono ?_
        rintro e w1 ⟨rfl, rfl⟩
        go_wp2_with fail
        refine (hpi _).mono ?_
        rintro e w1 ⟨v1, rfl, hv1, hb1⟩
        have HV1 := Lib.hid hv1
        obtain ⟨s1, b1, a1, n1, c1, rfl⟩ := iv_form hv1
        have HB1 := Lib.hid (HBL.out.trans (hb1.mono (by simp)))
        have HR1 := Lib.hid ((hb1.block w.heap.size (by simp)).trans HRR.out)
        obtain ⟨r0, r1, r2, r3, r4, r5⟩ := Res.cells HR1.out
        clear hb1 hv1 hpi
        generalize hok : (intF s.data.toList).isSome = ok at *
        have HOK := Lib.hid hok
        clear hok
        go_wp2_with fail
        exact end_ib Tryz.results133 rfl rfl rfl HR1.out HV1.out HB1.out (Nat.le_refl _) (by rw [← HOK.out]; exact cp_same HS.out)
      · have HN : Hid (canonF s.data.toList = none) := Lib.hid (by
          have h : (d.data.toList).headD 0 = 48 := by rw [HH.out]; exact UInt8.toNat_inj.1 h48
          rw [HCF.out, if_pos (.inr ⟨h, hz⟩)])
        have hzb : (s.toList == [48]) = false := by rw [ByteArray.toList_eq]; simpa using hz
        have hzb2 : (s.toList != [48]) = true := by rw [ByteArray.toList_eq]; simpa using hz
        have h48b : ((d[0].toNat : Int) == 48) = true := by simp [h48]
        clear h48 hz
        go_enter Tryz.func133, Tryz.ntmps133
        go_wp2_with fail
        refine (htp _).mono ?_
        rintro e w1 ⟨rfl, rfl⟩
        go_wp2_with fail
        exact end_ib0 Tryz.results133 rfl rfl rfl HRR.out (zeroIV _) HBL.out (cp_none HN.out)
    · have HS : Hid (canonF s.data.toList = intF s.data.toList) := Lib.hid (by
        rw [HCF.out, if_neg (by
          rintro (h | h)
          · exact HNE.out h
          · have := h.1; rw [HH.out] at this; rw [this] at h48; exact h48 rfl)])
      have h48b : ((d[0].toNat : Int) == 48) = false := by simp; omega
      clear h48
      go_enter Tryz.func133, Tryz.ntmps133
      go_wp2_with fail
      refine (htp _).mono ?_
      rintro e w1 ⟨rfl, rfl⟩
      go_wp2_with fail
      refine (hpi _).mono ?_
      rintro e w1 ⟨v1, rfl, hv1, hb1⟩
      have HV1 := Lib.hid hv1
      obtain ⟨s1, b1, a1, n1, c1, rfl⟩ := iv_form hv1
      have HB1 := Lib.hid (HBL.out.trans (hb1.mono (by simp)))
      have HR1 := Lib.hid ((hb1.block w.heap.size (by simp)).trans HRR.out)
      obtain ⟨r0, r1, r2, r3, r4, r5⟩ := Res.cells HR1.out
      clear hb1 hv1 hpi
      generalize hok : (intF s.data.toList).isSome = ok at *
      have HOK := Lib.hid hok
      clear hok
      go_wp2_with fail
      exact end_ib Tryz.results133 rfl rfl rfl HR1.out HV1.out HB1.out (Nat.le_refl _) (by rw [← HOK.out]; exact cp_same HS.out)
end
end Go.Proofs.YthefknoicelhaaaGreatDoor
namespace Go.Proofs.YthefknoicelhaaaGreatDoor
open Go.RowKit Nmx

theorem indexByte_cut : ∀ l : List UInt8, (l.contains 47 = true → 0 ≤ Lib.indexByte l 47 ∧ l.take (Lib.indexByte l 47).toNat = upto l ∧ l.drop ((Lib.indexByte l 47).toNat + 1) = behind l) ∧ (l.contains 47 = false → Lib.indexByte l 47 = -1) := by
  intro l
  induction l with
  | nil => exact ⟨fun h => by simp at h, fun _ => rfl⟩
  | cons b r ih =>
    obtain ⟨i1, i2⟩ := ih
    by_cases hb : b = 47
    · subst hb
      exact ⟨fun _ => ⟨by simp [Lib.indexByte], by simp [Lib.indexByte, upto], by simp [Lib.indexByte, behind]⟩, fun h => by simp at h⟩
    · have hb' : (b == (47 : UInt8)) = false := by simpa using hb
      have hbn : (b != (47 : UInt8)) = true := by simpa using hb
      have hc : (b :: r).contains 47 = r.contains 47 := by
        rw [List.contains_cons]
        rw [show ((47 : UInt8) == b) = false by rw [beq_eq_false_iff_ne]; exact fun e => hb e.symm]
        simp
      rw [hc]
      constructor
      · intro h
        obtain ⟨h0, h1, h2⟩ := i1 h
        have hi : Lib.indexByte (b :: r) 47 = Lib.indexByte r 47 + 1 := by
          have hne : (Lib.indexByte r 47 == -1) = false := by rw [beq_eq_false_iff_ne]; omega
          simp [Lib.indexByte, hb', hne]
        obtain ⟨n, hn⟩ := Int.eq_ofNat_of_zero_le h0
        rw [hi, hn]
        have e1 : ((n : Int) + 1).toNat = n + 1 := by omega
        rw [hn] at h1 h2
        rw [e1]
        simp only [Int.toNat_natCast] at h1 h2
        refine ⟨by omega, ?_, ?_⟩
        · rw [List.take_succ_cons, h1]; unfold upto; rw [List.takeWhile_cons, hbn]; simp
        · rw [List.drop_succ_cons, h2]; unfold behind; rw [List.dropWhile_cons, hbn]; simp
      · intro h
        rw [Lib.indexByte, hb', i2 h]; rfl
/-- the shelf's Cut at a slash, in words of one's own -/
theorem cut_slash (l : List UInt8) : Lib.cut l [47] = if l.contains 47 then (upto l, behind l, true) else (l, [], false) := by
  unfold Lib.cut
  rw [Lib.index_one]
  obtain ⟨h1, h2⟩ := indexByte_cut l
  by_cases hc : l.contains 47 = true
  · obtain ⟨a, b, c⟩ := h1 hc
    rw [if_pos a, if_pos hc, b]
    simp only [List.length_singleton, c]
  · have hf : l.contains 47 = false := by simpa using hc
    rw [h2 hf, hf]; rfl

def ParsePost (l : List UInt8) (w : World) (e : Ending) (w' : World) : Prop := ∃ v, e = .returned (.tuple #[v, .bool (ratF l).isSome]) ∧ RV w' v ((ratF l).getD 0) ∧ Below w.heap.size w w'
theorem ratF_int {l : List UInt8} (h : l.contains 47 = false) : ratF l = Option.map (fun z : Int => (z : Rat)) (canonF l) := by unfold ratF; rw [if_pos h]
theorem end_rb {fn : Func} {t t' : Tmp} {a : Act} {w w2 : World} {R : Nat} {q : Rat} {bb : Bool} {s1 : Int} {b1 : Bool} {a1 : Option Addr} {n1 c1 : Nat} {s2 : Int} {b2 : Bool} {a2 : Option Addr} {n2 c2 : Nat} {x0 x1 x2 x3 x4 x5 : Value} {Q : Ending → World → Prop} (hres : fn.results = #[.cell t 149, .tmp t']) (hd : a.defers = []) (ht : a.tmps.getD t undef = .pointer (some ⟨R, 0, none⟩)) (ht' : a.tmps.getD t' undef = .bool bb)
    (hR : w2.heap[R]? = some (.cells #[x0, x1, x2, x3, x4, x5] 149 (0, 0))) (hn : IV w2 (.agg #[.int .i64 s1, .bool b1, .slice a1 n1 c1]) q.num) (hdn : IV w2 (.agg #[.int .i64 s2, .bool b2, .slice a2 n2 c2]) (denI q)) (hb : Below w.heap.size w w2) (hRB : w.heap.size ≤ R)
    (hQ : ∀ w3 v, RV w3 v q → Below w.heap.size w w3 → Q (.returned (.tuple #[v, .bool bb])) w3) :
    bodyPost Tryz.prog fn Q .ret a ((((((w2.setCell ⟨R, 0, none⟩ (.int .i64 s1)).setCell ⟨R, 1, none⟩ (.bool b1)).setCell ⟨R, 2, none⟩ (.slice a1 n1 c1)).setCell ⟨R, 3, none⟩ (.int .i64 s2)).setCell ⟨R, 4, none⟩ (.bool b2)).setCell ⟨R, 5, none⟩ (.slice a2 n2 c2)) := by
  show bodyPost Tryz.prog fn Q .ret a (set6 w2 R (.int .i64 s1) (.bool b1) (.slice a1 n1 c1) (.int .i64 s2) (.bool b2) (.slice a2 n2 c2))
  have h3 := set6_heap hR (.int .i64 s1) (.bool b1) (.slice a1 n1 c1) (.int .i64 s2) (.bool b2) (.slice a2 n2 c2)
  have hbl := set6_below hb hRB (.int .i64 s1) (.bool b1) (.slice a1 n1 c1) (.int .i64 s2) (.bool b2) (.slice a2 n2 c2)
  have ho : ∀ k, k ≠ R → (set6 w2 R (.int .i64 s1) (.bool b1) (.slice a1 n1 c1) (.int .i64 s2) (.bool b2) (.slice a2 n2 c2)).heap[k]? = w2.heap[k]? := fun k hk => set6_other hk _ _ _ _ _ _
  have hn2 := hn.heap_same hR (by decide) ho
  have hd2 := hdn.heap_same hR (by decide) ho
  generalize set6 w2 R (.int .i64 s1) (.bool b1) (.slice a1 n1 c1) (.int .i64 s2) (.bool b2) (.slice a2 n2 c2) = w3 at *
  have k0 := heap_cell h3 0
  have k1 := heap_cell h3 1
  have k2 := heap_cell h3 2
  have k3 := heap_cell h3 3
  have k4 := heap_cell h3 4
  have k5 := heap_cell h3 5
  simp at k0 k1 k2 k3 k4 k5
  refine bodyPost_ret (v := .tuple #[.agg #[.int .i64 s1, .bool b1, .slice a1 n1 c1, .int .i64 s2, .bool b2, .slice a2 n2 c2], .bool bb]) ?_ hd (hQ w3 _ ⟨_, _, _, _, _, _, _, _, _, _, rfl, hn2, hd2⟩ hbl)
  have h1 : a.tmps[t]?.getD undef = .pointer (some ⟨R, 0, none⟩) := by simpa using ht
  have h2 : a.tmps[t']?.getD undef = .bool bb := by simpa using ht'
  simp [results, hres, go_sem, h1, h2, k0, k1, k2, k3, k4, k5]
theorem end_rbA {fn : Func} {t t' : Tmp} {a : Act} {w w2 : World} {R : Nat} {q : Rat} {bb : Bool} {s1 : Int} {b1 : Bool} {a1 : Option Addr} {n1 c1 : Nat} {s2 : Int} {b2 : Bool} {a2 : Option Addr} {n2 c2 : Nat} {x0 x1 x2 x3 x4 x5 : Value} {o : Obj} {Q : Ending → World → Prop} (hres : fn.results = #[.cell t 149, .tmp t']) (hd : a.defers = []) (ht : a.tmps.getD t undef = .pointer (some ⟨R, 0, none⟩)) (ht' : a.tmps.getD t' undef = .bool bb)
    (hR : w2.heap[R]? = some (.cells #[x0, x1, x2, x3, x4, x5] 149 (0, 0))) (hn : IV w2 (.agg #[.int .i64 s1, .bool b1, .slice a1 n1 c1]) q.num) (hdn : IV w2 (.agg #[.int .i64 s2, .bool b2, .slice a2 n2 c2]) (denI q)) (hb : Below w.heap.size w w2) (hRB : w.heap.size ≤ R)
    (hQ : ∀ w3 v, RV w3 v q → Below w.heap.size w w3 → Q (.returned (.tuple #[v, .bool bb])) w3) :
    bodyPost Tryz.prog fn Q .ret a (((((((w2.setCell ⟨R, 0, none⟩ (.int .i64 s1)).setCell ⟨R, 1, none⟩ (.bool b1)).setCell ⟨R, 2, none⟩ (.slice a1 n1 c1)).setCell ⟨R, 3, none⟩ (.int .i64 s2)).setCell ⟨R, 4, none⟩ (.bool b2)).setCell ⟨R, 5, none⟩ (.slice a2 n2 c2)).alloc o) := by
  show bodyPost Tryz.prog fn Q .ret a ((set6 w2 R (.int .i64 s1) (.bool b1) (.slice a1 n1 c1) (.int .i64 s2) (.bool b2) (.slice a2 n2 c2)).alloc o)
  have h3 := set6_heap hR (.int .i64 s1) (.bool b1) (.slice a1 n1 c1) (.int .i64 s2) (.bool b2) (.slice a2 n2 c2)
  have hbl := set6_below hb hRB (.int .i64 s1) (.bool b1) (.slice a1 n1 c1) (.int .i64 s2) (.bool b2) (.slice a2 n2 c2)
  have ho : ∀ k, k ≠ R → (set6 w2 R (.int .i64 s1) (.bool b1) (.slice a1 n1 c1) (.int .i64 s2) (.bool b2) (.slice a2 n2 c2)).heap[k]? = w2.heap[k]? := fun k hk => set6_other hk _ _ _ _ _ _
  have hn2 := hn.heap_same hR (by decide) ho
  have hd2 := hdn.heap_same hR (by decide) ho
  generalize set6 w2 R (.int .i64 s1) (.bool b1) (.slice a1 n1 c1) (.int .i64 s2) (.bool b2) (.slice a2 n2 c2) = w3 at *
  replace h3 := (Below.heap_alloc w3 o R (lt_of_heap h3)).trans h3
  replace hn2 := hn2.alloc_of o
  replace hd2 := hd2.alloc_of o
  replace hbl := hbl.alloc hbl.size o
  generalize w3.alloc o = w4 at *
  have k0 := heap_cell h3 0
  have k1 := heap_cell h3 1
  have k2 := heap_cell h3 2
  have k3 := heap_cell h3 3
  have k4 := heap_cell h3 4
  have k5 := heap_cell h3 5
  simp at k0 k1 k2 k3 k4 k5
  refine bodyPost_ret (v := .tuple #[.agg #[.int .i64 s1, .bool b1, .slice a1 n1 c1, .int .i64 s2, .bool b2, .slice a2 n2 c2], .bool bb]) ?_ hd (hQ w4 _ ⟨_, _, _, _, _, _, _, _, _, _, rfl, hn2, hd2⟩ hbl)
  have h1 : a.tmps[t]?.getD undef = .pointer (some ⟨R, 0, none⟩) := by simpa using ht
  have h2 : a.tmps[t']?.getD undef = .bool bb := by simpa using ht'
  simp [results, hres, go_sem, h1, h2, k0, k1, k2, k3, k4, k5]
theorem ResR.cells {w : World} {R : Nat} (h : w.heap[R]? = some (.cells #[.int .i64 0, .bool false, .slice none 0 0, .int .i64 0, .bool false, .slice none 0 0] 149 (0, 0))) : (w.cell? ⟨R, 0, none⟩ = some (.int .i64 0) ∧ w.cell? ⟨R, 1, none⟩ = some (.bool false) ∧ w.cell? ⟨R, 2, none⟩ = some (.slice none 0 0) ∧ w.cell? ⟨R, 3, none⟩ = some (.int .i64 0) ∧ w.cell? ⟨R, 4, none⟩ = some (.bool false) ∧ w.cell? ⟨R, 5, none⟩ = some (.slice none 0 0)) ∧ (∀ i, w.frozen? ⟨R, i, none⟩ = false) :=
  ⟨⟨heap_cell h 0, heap_cell h 1, heap_cell h 2, heap_cell h 3, heap_cell h 4, heap_cell h 5⟩, fun i => heap_fz h i⟩

section
set_option maxRecDepth 100000
set_option maxHeartbeats 4000000
theorem parse_int (m : Int) (s : ByteArray) (w : World) (hs : s.size ≤ 1000000) (h0 : 3 < w.heap.size) (hM : w.cell? ⟨3, 0, none⟩ = some (.int .i64 m)) (hc : s.data.toList.contains 47 = false) : Calls Tryz.prog 116 #[.string s] w (ParsePost s.data.toList w) := by
  have hcut := fun (W : World) (hW : W.cell? ⟨3, 0, none⟩ = some (.int .i64 m)) => Tryz.strings_Cut s ⟨#[47]⟩ m W (by omega) hW
  have hcs : Lib.cut s.data.toList (⟨#[47]⟩ : ByteArray).data.toList = (s.data.toList, [], false) := by
    have := cut_slash s.data.toList
    rw [hc] at this; exact this
  rw [hcs] at hcut
  simp only at hcut
  have hsb : (⟨s.data.toList.toArray⟩ : ByteArray) = s := by apply ByteArray.ext; simp
  rw [hsb] at hcut
  have hcn := fun W => canonicalInt_any s W hs
  have hM1 : (w.alloc (.cells #[.int .i64 0, .bool false, .slice none 0 0, .int .i64 0, .bool false, .slice none 0 0] 149)).cell? ⟨3, 0, none⟩ = some (.int .i64 m) := (World.cell?_alloc_past _ _ _ h0).trans hM
  have HBL : Hid (Below w.heap.size w (w.alloc (.cells #[.int .i64 0, .bool false, .slice none 0 0, .int .i64 0, .bool false, .slice none 0 0] 149))) := Lib.hid ((Below.refl _ _).alloc (Nat.le_refl _) _)
  have HRR : Hid ((w.alloc (.cells #[.int .i64 0, .bool false, .slice none 0 0, .int .i64 0, .bool false, .slice none 0 0] 149)).heap[w.heap.size]? = some (.cells #[.int .i64 0, .bool false, .slice none 0 0, .int .i64 0, .bool false, .slice none 0 0] 149 (0, 0))) := Lib.hid (heap_alloc_new w _)
  have HF := Lib.hid (ratF_int hc)
  clear hcs hsb hM hc
  go_enter Tryz.func116, Tryz.ntmps116
  go_wp2_with fail
  refine (hcut _ hM1).mono ?_
  rintro e w1 ⟨rfl, nq, rfl⟩
  clear hM1 hcut
  go_wp2_with fail
  refine (hcn _).mono ?_
  rintro e w2 ⟨v2, rfl, hv2, hb2⟩
  have HV2 := Lib.hid hv2
  obtain ⟨s1, b1, a1, n1, c1, rfl⟩ := iv_form hv2
  have HB2 := Lib.hid ((below_drewN HBL.out nq).trans (hb2.mono (by simp)))
  have HR2 := Lib.hid ((hb2.block w.heap.size (by simp)).trans HRR.out)
  clear hb2 hv2 hcn
  have hlt := lt_of_heap HR2.out
  generalize hok : (canonF s.data.toList).isSome = ok at *
  have HOK := Lib.hid hok
  clear hok
  have HR3 : Hid ((w2.alloc (.cells #[.int .i64 s1, .bool b1, .slice a1 n1 c1] 147)).heap[w.heap.size]? = some (.cells #[.int .i64 0, .bool false, .slice none 0 0, .int .i64 0, .bool false, .slice none 0 0] 149 (0, 0))) := Lib.hid ((Below.heap_alloc _ _ _ hlt).trans HR2.out)
  obtain ⟨⟨r0, r1, r2, r3, r4, r5⟩, fr⟩ := ResR.cells HR2.out
  cases ok
  · have hn : canonF s.data.toList = none := by have := HOK.out; cases h : canonF s.data.toList with | none => rfl | some z => rw [h] at this; cases this
    have HZ : Hid (ratF s.data.toList = none) := Lib.hid (by rw [HF.out, hn]; rfl)
    have HV3 : Hid (IV w2 (.agg #[.int .i64 s1, .bool b1, .slice a1 n1 c1]) ((0 : Rat)).num) := Lib.hid (by have := HV2.out; rw [hn] at this; exact this)
    clear hn
    go_wp2_with fail
    exact end_rbA Tryz.results116 rfl rfl rfl HR2.out HV3.out (zeroIV _) HB2.out (Nat.le_refl _) (fun w3 v h1 h2 => ⟨v, by rw [HZ.out]; rfl, by rw [HZ.out]; exact h1, h2⟩)
  · obtain ⟨z, hn⟩ : ∃ z, canonF s.data.toList = some z := by have := HOK.out; cases h : canonF s.data.toList with | none => rw [h] at this; cases this | some z => exact ⟨z, rfl⟩
    have HZ : Hid (ratF s.data.toList = some (z : Rat)) := Lib.hid (by rw [HF.out, hn]; rfl)
    have HV3 : Hid (IV w2 (.agg #[.int .i64 s1, .bool b1, .slice a1 n1 c1]) ((z : Rat)).num) := Lib.hid (by have := HV2.out; rw [hn] at this; rw [Rat.num_intCast]; exact this)
    have HD3 : Hid (denI (z : Rat) = 0) := Lib.hid (by unfold denI; rw [if_pos (Rat.den_intCast z)])
    clear hn
    go_wp2_with fail
    exact end_rbA Tryz.results116 rfl rfl rfl HR2.out HV3.out (by rw [HD3.out]; exact zeroIV _) HB2.out (Nat.le_refl _) (fun w3 v h1 h2 => ⟨v, by rw [HZ.out]; rfl, by rw [HZ.out]; exact h1, h2⟩)
end
end Go.Proofs.YthefknoicelhaaaGreatDoor

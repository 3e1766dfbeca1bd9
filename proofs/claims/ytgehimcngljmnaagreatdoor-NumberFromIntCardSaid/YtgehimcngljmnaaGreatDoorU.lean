/- parseWords of package exact: the words that digits denote. -/
import Derived.Test.YtgehimcngljmnaaGreatDoorT
namespace Go.Proofs.YtgehimcngljmnaaGreatDoor
open Go.RowKit Nmx

theorem size_data (s : ByteArray) : s.data.toList.length = s.size := by rw [Array.length_toList]; rfl
theorem ex_data (s : ByteArray) (a b : Nat) : (s.extract a b).data.toList = (s.data.toList.drop a).take (b - a) := by
  rw [ByteArray.data_extract, Array.toList_extract]
theorem isE (s : ByteArray) : s.toList.isEmpty = decide (s.size = 0) := by
  rw [ByteArray.toList_eq, ← size_data]
  cases s.data.toList <;> simp
/-- a chunk of n digits and what follows -/
theorem chunk_ok {r : ByteArray} {n : Nat} (hn : 0 < n) (h9 : n ≤ 9) (hr : n ≤ r.size) (hd : r.data.toList.all isD = true) :
    Lib.parseUintB 32 (r.extract 0 n).data.toList = .ok (dv (r.data.toList.take n)) ∧ dv (r.data.toList.take n) < 1000000000 ∧ (r.extract n r.size).data.toList = r.data.toList.drop n ∧ (r.extract n r.size).size = r.size - n ∧ (r.extract 0 n).size ≤ 9 ∧
    dv r.data.toList = dv (r.data.toList.take n) * 10 ^ (r.size - n) + dv (r.data.toList.drop n) ∧ (r.data.toList.drop n).all isD = true := by
  have hl := size_data r
  have e : (r.extract 0 n).data.toList = r.data.toList.take n := by rw [ex_data]; simp
  have ht : (r.data.toList.take n).all isD = true := List.all_eq_true.2 fun x hx => List.all_eq_true.1 hd x (List.mem_of_mem_take hx)
  have hdr : (r.data.toList.drop n).all isD = true := List.all_eq_true.2 fun x hx => List.all_eq_true.1 hd x (List.mem_of_mem_drop hx)
  have hlen : (r.data.toList.take n).length = n := by rw [List.length_take]; omega
  have hp : 10 ^ n ≤ 10 ^ 9 := Nat.pow_le_pow_right (by omega) h9
  have hlt := dv_lt _ ht
  rw [hlen] at hlt
  refine ⟨by rw [e]; exact parseU_ok 32 _ ht (fun h => by rw [h] at hlen; simp at hlen; omega) (by omega) (by rw [hlen]; omega), by omega, ?_, by rw [ByteArray.size_extract]; omega, by rw [ByteArray.size_extract]; omega, ?_, hdr⟩
  · rw [ex_data, List.take_of_length_le (by rw [List.length_drop]; omega)]
  · have := dv_append (r.data.toList.take n) (r.data.toList.drop n)
    rw [List.take_append_drop, List.length_drop, hl] at this
    exact this

theorem ownsW_below {w w1 : World} {b : Nat} {v : Value} {l : List Nat} (h : w.ownsRow b 109 1 v l.length (u32s l)) (hb : Below w.heap.size w w1) : w1.ownsRow b 109 1 v l.length (u32s l) := by
  obtain ⟨hx, h | ⟨g, cap, cur, hv, hg, hh, r⟩⟩ := h
  · exact ⟨hx, .inl h⟩
  · exact ⟨hx, .inr ⟨g, cap, cur, hv, hg, (hb.block g (lt_of_heap hh)).trans hh, r⟩⟩
structure PW (s : ByteArray) (B : Nat) (w0 wr : World) (r : ByteArray) (fb : Bool) (v : Value) (l : List Nat) : Prop where
  own : wr.ownsRow B 109 1 v l.length (u32s l)
  ws : Ws l
  bel : Below B w0 wr
  nine : fb = true ∨ r.size % 9 = 0
  dig : r.data.toList.all isD = true
  val : wv l * 10 ^ r.size + dv r.data.toList = dv s.data.toList
  few : l.length + r.size ≤ s.size
  emp : fb = true → l = []
/-- a chunk has been added -/
theorem PW.next {s : ByteArray} {B : Nat} {w0 wr wr' : World} {r : ByteArray} {fb : Bool} {v v' : Value} {l l' : List Nat} (h : PW s B w0 wr r fb v l) {n : Nat} (hn : 0 < n) (h9 : n ≤ 9) (hr : n ≤ r.size) (hmod : (r.size - n) % 9 = 0)
    (hown : wr'.ownsRow B 109 1 v' l'.length (u32s l')) (hw : Ws l') (hb : Below B w0 wr') (hv : wv l' = wv l * 10 ^ n + dv (r.data.toList.take n)) (hl : l'.length ≤ l.length + 1) : PW s B w0 wr' (r.extract n r.size) false v' l' := by
  obtain ⟨c1, c2, c3, c4, c5, c6, c7⟩ := chunk_ok hn h9 hr h.dig
  refine ⟨hown, hw, hb, .inr (by rw [c4]; exact hmod), by rw [c3]; exact c7, ?_, by have := h.few; rw [c4]; omega, (fun h => by cases h)⟩
  rw [c4, c3, hv, ← h.val, c6, Nat.add_mul, Nat.mul_assoc, ← Nat.pow_add, show n + (r.size - n) = r.size by omega]
  omega

section
set_option maxRecDepth 100000
set_option maxHeartbeats 4000000
def WordsOf (x : Nat) (m : Nat) (w : World) (e : Ending) (w' : World) : Prop := ∃ v l, e = .returned v ∧ WV w' v l ∧ wv l = x ∧ l.length ≤ m ∧ Below w.heap.size w w'
theorem parseWords_any (s : ByteArray) (w : World) (hs : s.size ≤ 1000000) (hd : s.data.toList.all isD = true) :
    Calls Tryz.prog 120 #[.string s] w (WordsOf (dv s.data.toList) s.size w) := by
  obtain ⟨i0, hi, hz0, hz1, hz2⟩ := info_parts infoU32
  have HP0 : Hid (PW s w.heap.size w w s true (.slice none 0 0) []) := Lib.hid ⟨World.ownsRow_nil _ _ _ _, Ws.nil, Below.refl _ _, .inl rfl, hd, by simp [wv_nil], by simp, fun _ => rfl⟩
  go_enter Tryz.func120, Tryz.ntmps120
  go_wp2
  generalize hB : w.heap.size = B at *
  have HBe := Lib.hid hB
  clear hB hd
  go_loopw [0, 3, 4] (fun rv v fb wr => ∃ (r : ByteArray) (f : Bool) (l : List Nat), rv = .string r ∧ fb = .bool f ∧ PW s B w wr r f v l) (fun rv _ _ _ => match rv with | .string t => t.size | _ => 0)
  case atStart => exact ⟨s, true, [], rfl, rfl, HP0.out⟩
  case round =>
    clear HP0
    obtain ⟨r, f, l, rfl, rfl, hpw⟩ := hrel
    have HP := Lib.hid hpw
    have hfew := hpw.few
    have hE := isE r
    clear hpw
    by_cases hr0 : r.size = 0
    · have hE1 : r.toList.isEmpty = true := by rw [hE]; simpa using hr0
      have hE2 : r.toList = [] := by simpa using hE1
      have HV : Hid (wv l = dv s.data.toList) := Lib.hid (by
        have := HP.out.val
        have e : r.data.toList = [] := List.length_eq_zero_iff.1 (by rw [size_data]; exact hr0)
        rw [hr0, e, dv_nil] at this
        omega)
      clear hE
      go_wp2
      go_ret
      exact ⟨_, l, rfl, ownsW_ws HP.out.own HP.out.ws, HV.out, by omega, by rw [HBe.out]; exact HP.out.bel⟩
    · have hE1 : r.toList.isEmpty = false := by rw [hE]; simpa using hr0
      have hE2 : ¬ r.toList = [] := fun e => by rw [e] at hE1; cases hE1
      clear hE
      by_cases hm : r.size % 9 = 0
      · have hcz : ((r.size : Int) % 9 != 0) = false := by simp; omega
        have h9 : 9 ≤ r.size := by omega
        cases f
        · obtain ⟨c1, c2, c3, c4, c5, c6, c7⟩ := chunk_ok (r := r) (n := 9) (by omega) (by omega) (by omega) HP.out.dig
          have hpu := Tryz.strconv_ParseUint_10_at32_ok (r.extract 0 9) (by omega) _ c1
          have HN := Lib.hid (fun wr' v' l' => HP.out.next (wr' := wr') (v' := v') (l' := l') (n := 9) (by omega) (by omega) (by omega) (by omega))
          have hsz := c4
          have C4 := Lib.hid c4
          clear c1 c3 c4 c5 c6 c7 hsz
          generalize dv (r.data.toList.take 9) = x at *
          go_wp2_with fail
          refine (hpu _).mono ?_
          rintro e w1 ⟨rfl, hw1⟩
          have hb1 : Below wr.heap.size wr w1 := by
            rcases hw1 with h | h
            · subst h; exact Below.refl _ _
            · subst h; exact Lib.bytesWorld_below _ _ _
          have HOW := Lib.hid (ownsW_below HP.out.own hb1)
          have HBW := Lib.hid (HP.out.bel.trans (hb1.mono (by have := HP.out.bel.size; have := HBe.out; omega)))
          have HLW := Lib.hid HP.out.ws
          clear hw1 hb1 HP hpu
          obtain ⟨a, c, hv⟩ := ownsW_len HOW.out
          subst hv
          obtain ⟨wo, rfl⟩ : ∃ wo : World, wo = w1 := ⟨_, rfl⟩
          have hxb : x < 4294967296 := by omega
          have hx0 : (0 : Int) ≤ (x : Int) := by omega
          go_wp2
          go_loopw [8, 36] (fun cv iv wr => ∃ (k cc : Nat) (l2 : List Nat), k ≤ l.length ∧ iv = .int .i64 k ∧ cv = .int .u64 cc ∧ MacR l l2 1000000000 x k cc ∧ wr.ownsRow B 109 1 (.slice a l.length c) l2.length (u32s l2) ∧ Below B w wr) (fun _ iv _ => l.length - (intOf iv).toNat)
          case atStart => exact ⟨0, x, l, Nat.zero_le _, rfl, rfl, MacR.start l _ _ HLW.out (by rw [BB_eq]; exact hxb), HOW.out, HBW.out⟩
          case round =>
            obtain ⟨k, cc, l2, hk, rfl, rfl, hmac, hown, hbel⟩ := hrel
            have HM := Lib.hid hmac
            have hl2 := hmac.len
            have hcc : cc < 4294967296 := by have := hmac.c1; rw [BB_eq] at this; exact this
            have hcc0 : (0 : Int) ≤ (cc : Int) := by omega
            have HBl := Lib.hid hbel
            have hsz2 := hbel.size
            clear hmac hbel HOW HBW
            have HO1 := Lib.hid hown
            rw [← hl2] at hown
            have HO := Lib.hid hown
            by_cases hlt : k < l.length
            · obtain ⟨g, cap, hv, hg, hcap⟩ := ownsW_shape hown (by omega)
              injection hv with e1 e2 e3
              subst e1 e3
              obtain ⟨hcl, hfz⟩ := ownsW_at hown k (by omega)
              have HST := Lib.hid (ownsW_set hown)
              have hrest := HM.out.rest k (Nat.le_refl _)
              rw [hrest] at hcl
              have hy := at_one (i := k) HLW.out
              have hy0 : (0 : Int) ≤ ((l.getD k 0 : Nat) : Int) := by omega
              have HSP := Lib.hid (fun t ht => HM.out.step HLW.out (by rw [BB_eq]; omega) hlt t ht)
              clear hown hrest e2
              generalize l.getD k 0 = y at *
              rw [hl2] at HST
              go_wp2
              rw [w_div (y * 1000000000 + cc) _ (by omega), w_mod (y * 1000000000 + cc) _ (by omega)]
              refine ⟨⟨k + 1, _, l2.set k ((y * 1000000000 + cc) % BB), by omega, by go_num, rfl, (HSP.out _ rfl).1, HST.out k _, HBl.out.setCell hg _⟩, ?_⟩
              simp [intOf]; omega
            · obtain rfl : k = l.length := by omega
              obtain ⟨d1, d2, d3⟩ := HM.out.done
              have D1 := Lib.hid d1
              have D2 := Lib.hid d2
              have D3 := Lib.hid d3
              clear d1 d2 d3 hown
              have hgs : ∀ g, (Value.slice a l.length c).ownBlock = some g → B ≤ g := fun g hg => (HO1.out.lt g hg).1
              by_cases hc0 : cc = 0
              · have hcb : ((cc : Int) != 0) = false := by simp [hc0]
                have HV : Hid (wv l2 = wv l * 1000000000 + x) := Lib.hid (D2.out hc0)
                clear hc0
                go_wp2
                refine ⟨⟨r.extract 9 r.size, false, l2, rfl, rfl, HN.out _ _ _ HO1.out HM.out.ws HBl.out (by rw [show 10 ^ 9 = 1000000000 from rfl]; exact HV.out) (by omega)⟩, ?_⟩
                show (r.extract 9 r.size).size < r.size; rw [C4.out]; omega
              · have hcb : ((cc : Int) != 0) = true := by simp; omega
                have HV : Hid (wv (l2 ++ [cc]) = wv l * 1000000000 + x) := Lib.hid D1.out
                clear hc0
                have HO2 := HO1.out
                rw [hl2] at HO2
                have HO3 := Lib.hid HO2
                clear HO2
                go_wp2_with (at_builtin; refine wpList_append_own _ rfl (.tmp 57) (.tmp 60) 56 rfl B 109 i0 (.int .u32 0) 1 4 Tryz.underlying56 hi hz0 hz1 hz2 rfl (by decide) _ l.length _ rfl (HO3.out.alloc _) ⟨wr.heap.size, 0, none⟩ 1 1 [.int .u32 cc] rfl rfl (World.news_of_block (cs := #[.int .u32 cc]) (t := 109) (fr := (0, 0)) (heap_alloc_new wr _)) (by simp [Value.oneCell']) (by unfold maxLen; omega) (by omega) (by simp; have := HBe.out; have := HBl.out.size; omega) ?_)
                intro v' w2 hown' hgrow _
                have HB2 := Lib.hid ((HBl.out.alloc (by have := HBe.out; have := HBl.out.size; omega) _).grown hgrow (by simp; have := HBe.out; have := HBl.out.size; omega) hgs)
                have HO4 : Hid (w2.ownsRow B 109 1 v' (l2 ++ [cc]).length (u32s (l2 ++ [cc]))) := Lib.hid (by
                  rw [List.length_append, List.length_singleton, hl2]; simpa [u32s] using hown')
                clear hown' hgrow
                go_wp2
                refine ⟨⟨r.extract 9 r.size, false, l2 ++ [cc], rfl, rfl, HN.out _ _ _ HO4.out D3.out HB2.out (by rw [show 10 ^ 9 = 1000000000 from rfl]; exact HV.out) (by rw [List.length_append, List.length_singleton]; omega)⟩, ?_⟩
                show (r.extract 9 r.size).size < r.size; rw [C4.out]; omega
        · obtain ⟨c1, c2, c3, c4, c5, c6, c7⟩ := chunk_ok (r := r) (n := 9) (by omega) (by omega) (by omega) HP.out.dig
          have hpu := Tryz.strconv_ParseUint_10_at32_ok (r.extract 0 9) (by omega) _ c1
          have HN := Lib.hid (fun wr' v' l' => HP.out.next (wr' := wr') (v' := v') (l' := l') (n := 9) (by omega) (by omega) (by omega) (by omega))
          have hsz := c4
          have C4 := Lib.hid c4
          clear c1 c3 c4 c5 c6 c7 hsz
          generalize dv (r.data.toList.take 9) = x at *
          go_wp2_with fail
          refine (hpu _).mono ?_
          rintro e w1 ⟨rfl, hw1⟩
          have hb1 : Below wr.heap.size wr w1 := by
            rcases hw1 with h | h
            · subst h; exact Below.refl _ _
            · subst h; exact Lib.bytesWorld_below _ _ _
          have HOW := Lib.hid (ownsW_below HP.out.own hb1)
          have HBW := Lib.hid (HP.out.bel.trans (hb1.mono (by have := HP.out.bel.size; have := HBe.out; omega)))
          have HLW := Lib.hid HP.out.ws
          clear hw1 hb1 HP hpu
          obtain ⟨a, c, hv⟩ := ownsW_len HOW.out
          subst hv
          obtain ⟨wo, rfl⟩ : ∃ wo : World, wo = w1 := ⟨_, rfl⟩
          have hxb : x < 4294967296 := by omega
          have hx0 : (0 : Int) ≤ (x : Int) := by omega
          go_wp2
          go_loopw [8, 36] (fun cv iv wr => ∃ (k cc : Nat) (l2 : List Nat), k ≤ l.length ∧ iv = .int .i64 k ∧ cv = .int .u64 cc ∧ MacR l l2 1000000000 x k cc ∧ wr.ownsRow B 109 1 (.slice a l.length c) l2.length (u32s l2) ∧ Below B w wr) (fun _ iv _ => l.length - (intOf iv).toNat)
          case atStart => exact ⟨0, x, l, Nat.zero_le _, rfl, rfl, MacR.start l _ _ HLW.out (by rw [BB_eq]; exact hxb), HOW.out, HBW.out⟩
          case round =>
            obtain ⟨k, cc, l2, hk, rfl, rfl, hmac, hown, hbel⟩ := hrel
            have HM := Lib.hid hmac
            have hl2 := hmac.len
            have hcc : cc < 4294967296 := by have := hmac.c1; rw [BB_eq] at this; exact this
            have hcc0 : (0 : Int) ≤ (cc : Int) := by omega
            have HBl := Lib.hid hbel
            have hsz2 := hbel.size
            clear hmac hbel HOW HBW
            have HO1 := Lib.hid hown
            rw [← hl2] at hown
            have HO := Lib.hid hown
            by_cases hlt : k < l.length
            · obtain ⟨g, cap, hv, hg, hcap⟩ := ownsW_shape hown (by omega)
              injection hv with e1 e2 e3
              subst e1 e3
              obtain ⟨hcl, hfz⟩ := ownsW_at hown k (by omega)
              have HST := Lib.hid (ownsW_set hown)
              have hrest := HM.out.rest k (Nat.le_refl _)
              rw [hrest] at hcl
              have hy := at_one (i := k) HLW.out
              have hy0 : (0 : Int) ≤ ((l.getD k 0 : Nat) : Int) := by omega
              have HSP := Lib.hid (fun t ht => HM.out.step HLW.out (by rw [BB_eq]; omega) hlt t ht)
              clear hown hrest e2
              generalize l.getD k 0 = y at *
              rw [hl2] at HST
              go_wp2
              rw [w_div (y * 1000000000 + cc) _ (by omega), w_mod (y * 1000000000 + cc) _ (by omega)]
              refine ⟨⟨k + 1, _, l2.set k ((y * 1000000000 + cc) % BB), by omega, by go_num, rfl, (HSP.out _ rfl).1, HST.out k _, HBl.out.setCell hg _⟩, ?_⟩
              simp [intOf]; omega
            · obtain rfl : k = l.length := by omega
              obtain ⟨d1, d2, d3⟩ := HM.out.done
              have D1 := Lib.hid d1
              have D2 := Lib.hid d2
              have D3 := Lib.hid d3
              clear d1 d2 d3 hown
              have hgs : ∀ g, (Value.slice a l.length c).ownBlock = some g → B ≤ g := fun g hg => (HO1.out.lt g hg).1
              by_cases hc0 : cc = 0
              · have hcb : ((cc : Int) != 0) = false := by simp [hc0]
                have HV : Hid (wv l2 = wv l * 1000000000 + x) := Lib.hid (D2.out hc0)
                clear hc0
                go_wp2
                refine ⟨⟨r.extract 9 r.size, false, l2, rfl, rfl, HN.out _ _ _ HO1.out HM.out.ws HBl.out (by rw [show 10 ^ 9 = 1000000000 from rfl]; exact HV.out) (by omega)⟩, ?_⟩
                show (r.extract 9 r.size).size < r.size; rw [C4.out]; omega
              · have hcb : ((cc : Int) != 0) = true := by simp; omega
                have HV : Hid (wv (l2 ++ [cc]) = wv l * 1000000000 + x) := Lib.hid D1.out
                clear hc0
                have HO2 := HO1.out
                rw [hl2] at HO2
                have HO3 := Lib.hid HO2
                clear HO2
                go_wp2_with (at_builtin; refine wpList_append_own _ rfl (.tmp 57) (.tmp 60) 56 rfl B 109 i0 (.int .u32 0) 1 4 Tryz.underlying56 hi hz0 hz1 hz2 rfl (by decide) _ l.length _ rfl (HO3.out.alloc _) ⟨wr.heap.size, 0, none⟩ 1 1 [.int .u32 cc] rfl rfl (World.news_of_block (cs := #[.int .u32 cc]) (t := 109) (fr := (0, 0)) (heap_alloc_new wr _)) (by simp [Value.oneCell']) (by unfold maxLen; omega) (by omega) (by simp; have := HBe.out; have := HBl.out.size; omega) ?_)
                intro v' w2 hown' hgrow _
                have HB2 := Lib.hid ((HBl.out.alloc (by have := HBe.out; have := HBl.out.size; omega) _).grown hgrow (by simp; have := HBe.out; have := HBl.out.size; omega) hgs)
                have HO4 : Hid (w2.ownsRow B 109 1 v' (l2 ++ [cc]).length (u32s (l2 ++ [cc]))) := Lib.hid (by
                  rw [List.length_append, List.length_singleton, hl2]; simpa [u32s] using hown')
                clear hown' hgrow
                go_wp2
                refine ⟨⟨r.extract 9 r.size, false, l2 ++ [cc], rfl, rfl, HN.out _ _ _ HO4.out D3.out HB2.out (by rw [show 10 ^ 9 = 1000000000 from rfl]; exact HV.out) (by rw [List.length_append, List.length_singleton]; omega)⟩, ?_⟩
                show (r.extract 9 r.size).size < r.size; rw [C4.out]; omega
      · have hf : f = true := by rcases HP.out.nine with h | h; exact h; exact absurd h hm
        subst hf
        have HL0 : Hid (wv l = 0) := Lib.hid (by rw [HP.out.emp rfl]; rfl)
        obtain ⟨N, hN⟩ : ∃ N, r.size % 9 = N := ⟨_, rfl⟩
        have hNi : (r.size : Int) % 9 = (N : Int) := by omega
        have hcz : ((N : Int) != 0) = true := by simp; omega
        have hN1 : 0 < N := by omega
        have hN2 : N ≤ 9 := by omega
        have hN3 : N ≤ r.size := by omega
        have hN4 : (r.size - N) % 9 = 0 := by omega
        clear hm hN
        obtain ⟨c1, c2, c3, c4, c5, c6, c7⟩ := chunk_ok (r := r) (n := N) (by omega) (by omega) (by omega) HP.out.dig
        have hpu := Tryz.strconv_ParseUint_10_at32_ok (r.extract 0 N) (by omega) _ c1
        have HN := Lib.hid (fun wr' v' l' => HP.out.next (wr' := wr') (v' := v') (l' := l') (n := N) (by omega) (by omega) (by omega) (by omega))
        have hsz := c4
        have C4 := Lib.hid c4
        clear c1 c3 c4 c5 c6 c7 hsz
        generalize dv (r.data.toList.take N) = x at *
        go_wp2_with fail
        refine (hpu _).mono ?_
        rintro e w1 ⟨rfl, hw1⟩
        have hb1 : Below wr.heap.size wr w1 := by
          rcases hw1 with h | h
          · subst h; exact Below.refl _ _
          · subst h; exact Lib.bytesWorld_below _ _ _
        have HOW := Lib.hid (ownsW_below HP.out.own hb1)
        have HBW := Lib.hid (HP.out.bel.trans (hb1.mono (by have := HP.out.bel.size; have := HBe.out; omega)))
        have HLW := Lib.hid HP.out.ws
        clear hw1 hb1 HP hpu
        obtain ⟨a, c, hv⟩ := ownsW_len HOW.out
        subst hv
        obtain ⟨wo, rfl⟩ : ∃ wo : World, wo = w1 := ⟨_, rfl⟩
        have hxb : x < 4294967296 := by omega
        have hx0 : (0 : Int) ≤ (x : Int) := by omega
        go_wp2
        go_loopw [8, 36] (fun cv iv wr => ∃ (k cc : Nat) (l2 : List Nat), k ≤ l.length ∧ iv = .int .i64 k ∧ cv = .int .u64 cc ∧ MacR l l2 1000000000 x k cc ∧ wr.ownsRow B 109 1 (.slice a l.length c) l2.length (u32s l2) ∧ Below B w wr) (fun _ iv _ => l.length - (intOf iv).toNat)
        case atStart => exact ⟨0, x, l, Nat.zero_le _, rfl, rfl, MacR.start l _ _ HLW.out (by rw [BB_eq]; exact hxb), HOW.out, HBW.out⟩
        case round =>
          obtain ⟨k, cc, l2, hk, rfl, rfl, hmac, hown, hbel⟩ := hrel
          have HM := Lib.hid hmac
          have hl2 := hmac.len
          have hcc : cc < 4294967296 := by have := hmac.c1; rw [BB_eq] at this; exact this
          have hcc0 : (0 : Int) ≤ (cc : Int) := by omega
          have HBl := Lib.hid hbel
          have hsz2 := hbel.size
          clear hmac hbel HOW HBW
          have HO1 := Lib.hid hown
          rw [← hl2] at hown
          have HO := Lib.hid hown
          by_cases hlt : k < l.length
          · obtain ⟨g, cap, hv, hg, hcap⟩ := ownsW_shape hown (by omega)
            injection hv with e1 e2 e3
            subst e1 e3
            obtain ⟨hcl, hfz⟩ := ownsW_at hown k (by omega)
            have HST := Lib.hid (ownsW_set hown)
            have hrest := HM.out.rest k (Nat.le_refl _)
            rw [hrest] at hcl
            have hy := at_one (i := k) HLW.out
            have hy0 : (0 : Int) ≤ ((l.getD k 0 : Nat) : Int) := by omega
            have HSP := Lib.hid (fun t ht => HM.out.step HLW.out (by rw [BB_eq]; omega) hlt t ht)
            clear hown hrest e2
            generalize l.getD k 0 = y at *
            rw [hl2] at HST
            go_wp2
            rw [w_div (y * 1000000000 + cc) _ (by omega), w_mod (y * 1000000000 + cc) _ (by omega)]
            refine ⟨⟨k + 1, _, l2.set k ((y * 1000000000 + cc) % BB), by omega, by go_num, rfl, (HSP.out _ rfl).1, HST.out k _, HBl.out.setCell hg _⟩, ?_⟩
            simp [intOf]; omega
          · obtain rfl : k = l.length := by omega
            obtain ⟨d1, d2, d3⟩ := HM.out.done
            have D1 := Lib.hid d1
            have D2 := Lib.hid d2
            have D3 := Lib.hid d3
            clear d1 d2 d3 hown
            have hgs : ∀ g, (Value.slice a l.length c).ownBlock = some g → B ≤ g := fun g hg => (HO1.out.lt g hg).1
            by_cases hc0 : cc = 0
            · have hcb : ((cc : Int) != 0) = false := by simp [hc0]
              have HV : Hid (wv l2 = wv l * 1000000000 + x) := Lib.hid (D2.out hc0)
              clear hc0
              go_wp2
              refine ⟨⟨r.extract N r.size, false, l2, rfl, rfl, HN.out _ _ _ HO1.out HM.out.ws HBl.out (by rw [HV.out, HL0.out, Nat.zero_mul, Nat.zero_mul]) (by omega)⟩, ?_⟩
              show (r.extract N r.size).size < r.size; rw [C4.out]; omega
            · have hcb : ((cc : Int) != 0) = true := by simp; omega
              have HV : Hid (wv (l2 ++ [cc]) = wv l * 1000000000 + x) := Lib.hid D1.out
              clear hc0
              have HO2 := HO1.out
              rw [hl2] at HO2
              have HO3 := Lib.hid HO2
              clear HO2
              go_wp2_with (at_builtin; refine wpList_append_own _ rfl (.tmp 57) (.tmp 60) 56 rfl B 109 i0 (.int .u32 0) 1 4 Tryz.underlying56 hi hz0 hz1 hz2 rfl (by decide) _ l.length _ rfl (HO3.out.alloc _) ⟨wr.heap.size, 0, none⟩ 1 1 [.int .u32 cc] rfl rfl (World.news_of_block (cs := #[.int .u32 cc]) (t := 109) (fr := (0, 0)) (heap_alloc_new wr _)) (by simp [Value.oneCell']) (by unfold maxLen; omega) (by omega) (by simp; have := HBe.out; have := HBl.out.size; omega) ?_)
              intro v' w2 hown' hgrow _
              have HB2 := Lib.hid ((HBl.out.alloc (by have := HBe.out; have := HBl.out.size; omega) _).grown hgrow (by simp; have := HBe.out; have := HBl.out.size; omega) hgs)
              have HO4 : Hid (w2.ownsRow B 109 1 v' (l2 ++ [cc]).length (u32s (l2 ++ [cc]))) := Lib.hid (by
                rw [List.length_append, List.length_singleton, hl2]; simpa [u32s] using hown')
              clear hown' hgrow
              go_wp2
              refine ⟨⟨r.extract N r.size, false, l2 ++ [cc], rfl, rfl, HN.out _ _ _ HO4.out D3.out HB2.out (by rw [HV.out, HL0.out, Nat.zero_mul, Nat.zero_mul]) (by rw [List.length_append, List.length_singleton]; omega)⟩, ?_⟩
              show (r.extract N r.size).size < r.size; rw [C4.out]; omega
end
end Go.Proofs.YtgehimcngljmnaaGreatDoor

/- The text of a number. -/
import Derived.Test.YtpkfnnkbfphfbaaGreatDoorGUI
import Derived.Test.YtpkfnnkbfphfbaaGreatDoorGLS
set_option maxRecDepth 100000
set_option maxHeartbeats 40000000
namespace Go.Proofs.YtpkfnnkbfphfbaaGreatDoor.Se
open Go.RowKit Nmx

def posT (sort:Int) (q:Rat):ByteArray:=
  if sort=2 then TX q else if q.den=1 then TX q++⟨#[46,48]⟩
  else (((⟨#[40,47,32]⟩:ByteArray)++TX ((q.num:Int):Rat))++⟨#[46,48,32]⟩++TX (((q.den:Int)):Rat))++⟨#[46,48,41]⟩
def fnT (sort:Int) (q:Rat):ByteArray:=if q.num<0 then ((⟨#[40,45,32]⟩:ByteArray)++posT sort (-q))++⟨#[41]⟩ else posT sort q
structure FX (S:Nat) (sort:Int) (q:Rat) (w W:World):Prop where
  srt:W.cell? ⟨S,1,none⟩=some (.int .i64 sort)
  num:W.cell? ⟨S,3,none⟩=some (.string (TX q))
  env:Env W
  lt:S<W.heap.size
  bel:Below S w W
theorem FX.far {S:Nat} {sort:Int} {q:Rat} {w W W':World} (h:FX S sort q w W) (hb:Below W.heap.size W W'):FX S sort q w W':=
  ⟨(hb.cell (p:=⟨S,1,none⟩) h.lt).trans h.srt,(hb.cell (p:=⟨S,3,none⟩) h.lt).trans h.num,h.env.far hb,Nat.lt_of_lt_of_le h.lt hb.size,h.bel.trans (hb.mono (Nat.le_of_lt h.lt))⟩
theorem FX.drew {S:Nat} {sort:Int} {q:Rat} {w W:World} (h:FX S sort q w W):FX S sort q w W.drew:=
  ⟨h.srt,h.num,h.env.far (below_draws (Below.refl _ _) 1),h.lt,below_draws h.bel 1⟩
section
theorem tx_le {d:Nat} {q:Rat} (hq:DS d q) (hd:d≤2001):(TX q).size≤10000:=by
  have:=hq.len
  show (⟨(textQ q).toArray⟩:ByteArray).size≤10000
  rw[ByteArray.size];simp;omega
theorem formatNum_pos {d:Nat} {q:Rat} (hq:DS d q) (hd:d≤2000) (h0:0≤q.num) (op sort kids:Int) (name:ByteArray) (w:World) (h:Env w):
    Calls Tryz.prog 118 #[.agg #[.int .i64 op,.int .i64 sort,.string name,.string (TX q),.int .i64 kids]] w fun e w'=>e=.returned (.string (posT sort q))∧Below w.heap.size w w':=by
  have hb:Below w.heap.size w (w.alloc (.cells #[.int .i64 op,.int .i64 sort,.string name,.string (TX q),.int .i64 kids] 57)):=(Below.refl _ _).alloc (Nat.le_refl _) _
  have HX:Hid (FX w.heap.size sort q w (w.alloc (.cells #[.int .i64 op,.int .i64 sort,.string name,.string (TX q),.int .i64 kids] 57))):=Lib.hid ⟨by rw[World.cell?_alloc_at _ _ _ _ rfl];rfl,by rw[World.cell?_alloc_at _ _ _ _ rfl];rfl,h.far hb,by simp,hb⟩
  have HP:Hid (posT sort q=if sort=2 then TX q else if q.den=1 then TX q++⟨#[46,48]⟩ else (((⟨#[40,47,32]⟩:ByteArray)++TX ((q.num:Int):Rat))++⟨#[46,48,32]⟩++TX (((q.den:Int)):Rat))++⟨#[46,48,41]⟩):=Lib.hid rfl
  have HQ:=Lib.hid hq
  have HD:=Lib.hid hd
  have hsg:¬sgnI q.num<0:=by unfold sgnI;split <;> first | omega | (split <;> omega)
  have hl1:=tx_le hq (by omega)
  have hl2:=tx_le hq.num (by omega)
  have hl3:=tx_le hq.den (by omega)
  generalize hS:w.heap.size=S at *
  have HS:=Lib.hid hS
  clear h hb hS hq hd
  go_enter Tryz.func118,Tryz.ntmps118
  go_wp2_with fail
  rw[HS.out]
  generalize w.alloc (.cells #[.int .i64 op,.int .i64 sort,.string name,.string (TX q),.int .i64 kids] 57)=w1 at *
  refine (numSignT HQ.out (by have:=HD.out;omega) w1 HX.out.env).mono ?_
  rintro e w2 ⟨rfl,hb2⟩
  generalize sgnI q.num=sg at *
  have HX2:=Lib.hid (HX.out.far hb2)
  clear hb2 HX
  have c1:=HX2.out.srt
  have c3:=HX2.out.num
  by_cases s2:sort=2
  · have HN:Hid (posT sort q=TX q):=Lib.hid (by rw[HP.out,if_pos s2])
    subst s2
    go_wp2
    go_ret
    exact ⟨by rw[HN.out];rfl,HX2.out.bel⟩
  · have e2:(sort==2)=false:=by simp[s2]
    have hi:=numIsIntT HQ.out (by have:=HD.out;omega) w2 HX2.out.env
    by_cases hdn:q.den=1
    · have HN:Hid (posT sort q=TX q++⟨#[46,48]⟩):=Lib.hid (by rw[HP.out,if_neg s2,if_pos hdn])
      rw[decide_eq_true hdn] at hi
      go_wp2_with fail
      refine hi.mono ?_
      rintro e w3 ⟨rfl,hb3⟩
      have HX3:=Lib.hid (HX2.out.far hb3)
      clear hb3 c1 c3
      have c3:=HX3.out.num
      go_wp2
      go_ret
      exact ⟨by rw[HN.out];rfl,HX3.out.bel⟩
    · have HN:Hid (posT sort q=(((⟨#[40,47,32]⟩:ByteArray)++TX ((q.num:Int):Rat))++⟨#[46,48,32]⟩++TX (((q.den:Int)):Rat))++⟨#[46,48,41]⟩):=Lib.hid (by rw[HP.out,if_neg s2,if_neg hdn])
      rw[decide_eq_false hdn] at hi
      go_wp2_with fail
      refine hi.mono ?_
      rintro e w3 ⟨rfl,hb3⟩
      have HX3:=Lib.hid (HX2.out.far hb3)
      clear hb3 c1 c3
      go_wp2
      refine add_region [[],[0],[0,1],[0,1,2],[0,1,2,3],[],[5],[0,1,2,5,6],[0,1,2,3,4,5,6,7],[0,1,2,3,4,5,6,7,8],[0,1,2,3,4,5,6,7,8,9]] (fun W=>FX S sort q w W) (fun _=>True) ?_
      iterate 2
        apply a_con
        · intro x;go_simp;done
        · intro x W R hW hF hR
          have c3:=hW.num
          clear hF
          unfold addAt
          go_simp
          simp only[addUpon]
          exact hR _ (Below.refl _ _)
        simp only[Act.put,List.setIfInBounds_toArray,List.set_cons_zero,List.set_cons_succ]
      apply a_con
      · intro x;go_simp;done
      · intro x W R hW hF hR
        have c3:=hW.num
        clear hF
        unfold addAt
        go_simp
        simp only[addUpon]
        refine (numNumT HQ.out (by have:=HD.out;omega) W hW.env).mono ?_
        rintro e w4 ⟨rfl,hb4⟩
        exact ⟨_,rfl,hR _ hb4⟩
      simp only[Act.put,List.setIfInBounds_toArray,List.set_cons_zero,List.set_cons_succ]
      apply a_con
      · intro x;go_simp;done
      · intro x W R hW hF hR
        have c3:=hW.num
        clear hF
        unfold addAt
        go_simp
        simp only[addUpon]
        first | rw[if_neg (by omega)] | (simp only[ByteArray.size_append];rw[if_neg (by simp;omega)])
        exact hR _ (Below.refl _ _)
      simp only[Act.put,List.setIfInBounds_toArray,List.set_cons_zero,List.set_cons_succ]
      apply a_con
      · intro x;go_simp;done
      · intro x W R hW hF hR
        have c3:=hW.num
        clear hF
        unfold addAt
        go_simp
        simp only[addUpon]
        first | rw[if_neg (by omega)] | (simp only[ByteArray.size_append];rw[if_neg (by simp;omega)])
        exact hR _ (Below.refl _ _)
      simp only[Act.put,List.setIfInBounds_toArray,List.set_cons_zero,List.set_cons_succ]
      iterate 2
        apply a_con
        · intro x;go_simp;done
        · intro x W R hW hF hR
          have c3:=hW.num
          clear hF
          unfold addAt
          go_simp
          simp only[addUpon]
          exact hR _ (Below.refl _ _)
        simp only[Act.put,List.setIfInBounds_toArray,List.set_cons_zero,List.set_cons_succ]
      apply a_con
      · intro x;go_simp;done
      · intro x W R hW hF hR
        have c3:=hW.num
        clear hF
        unfold addAt
        go_simp
        simp only[addUpon]
        refine (numDenT HQ.out (by have:=HD.out;omega) W hW.env).mono ?_
        rintro e w4 ⟨rfl,hb4⟩
        exact ⟨_,rfl,hR _ hb4⟩
      simp only[Act.put,List.setIfInBounds_toArray,List.set_cons_zero,List.set_cons_succ]
      apply a_con
      · intro x;go_simp;done
      · intro x W R hW hF hR
        have c3:=hW.num
        clear hF
        unfold addAt
        go_simp
        simp only[addUpon]
        first | rw[if_neg (by omega)] | (simp only[ByteArray.size_append];rw[if_neg (by simp;omega)])
        exact hR _ (Below.refl _ _)
      simp only[Act.put,List.setIfInBounds_toArray,List.set_cons_zero,List.set_cons_succ]
      apply a_con
      · intro x;go_simp;done
      · intro x W R hW hF hR
        have c3:=hW.num
        clear hF
        unfold addAt
        go_simp
        simp only[addUpon]
        first | rw[if_neg (by omega)] | (simp only[ByteArray.size_append];rw[if_neg (by simp;omega)])
        exact hR _ (Below.refl _ _)
      simp only[Act.put,List.setIfInBounds_toArray,List.set_cons_zero,List.set_cons_succ]
      apply a_con
      · intro x;go_simp;done
      · intro x W R hW hF hR
        have c3:=hW.num
        clear hF
        unfold addAt
        go_simp
        simp only[addUpon]
        exact hR _ (Below.refl _ _)
      simp only[Act.put,List.setIfInBounds_toArray,List.set_cons_zero,List.set_cons_succ]
      refine a_nil (by kernel_rfl) (by kernel_rfl) (by kernel_rfl) (fun _ _ h hb=>h.far hb) (fun _ _ _ _=>trivial) (fun _ _=>trivial) (HX3.out.drew) ?_
      intro x W hE hW hF hD
      clear hD
      have HB:=Lib.hid (hW rfl).bel
      clear hW hF
      try go_wp2
      go_ret
      exact ⟨by rw[HN.out];rfl,HB.out⟩
theorem pos_le {d:Nat} {q:Rat} (hq:DS d q) (hd:d≤2000) (sort:Int):(posT sort q).size≤40000:=by
  have hl1:=tx_le hq (by omega)
  have hl2:=tx_le hq.num (by omega)
  have hl3:=tx_le hq.den (by omega)
  unfold posT
  split
  · omega
  · split
    · rw[ByteArray.size_append,show (⟨#[46,48]⟩:ByteArray).size=2 from rfl];omega
    · simp only[ByteArray.size_append]
      rw[show (⟨#[40,47,32]⟩:ByteArray).size=3 from rfl,show (⟨#[46,48,32]⟩:ByteArray).size=3 from rfl,show (⟨#[46,48,41]⟩:ByteArray).size=3 from rfl];omega
theorem formatNum_any {d:Nat} {q:Rat} (hq:DS d q) (hd:d≤2000) (op sort kids:Int) (name:ByteArray) (w:World) (h:Env w):
    Calls Tryz.prog 118 #[.agg #[.int .i64 op,.int .i64 sort,.string name,.string (TX q),.int .i64 kids]] w fun e w'=>e=.returned (.string (fnT sort q))∧Below w.heap.size w w':=by
  by_cases hneg:q.num<0
  · have hb:Below w.heap.size w (w.alloc (.cells #[.int .i64 op,.int .i64 sort,.string name,.string (TX q),.int .i64 kids] 57)):=(Below.refl _ _).alloc (Nat.le_refl _) _
    have hw0:=heap_alloc_new w (.cells #[.int .i64 op,.int .i64 sort,.string name,.string (TX q),.int .i64 kids] 57)
    have hlt:w.heap.size<(w.alloc (.cells #[.int .i64 op,.int .i64 sort,.string name,.string (TX q),.int .i64 kids] 57)).heap.size:=by simp
    have HE:=Lib.hid (h.far hb)
    have HE0:=Lib.hid h
    have HB:=Lib.hid hb
    have HF:Hid (fnT sort q=((⟨#[40,45,32]⟩:ByteArray)++posT sort (-q))++⟨#[41]⟩):=Lib.hid (by unfold fnT;rw[if_pos hneg])
    have hsg:sgnI q.num<0:=by unfold sgnI;rw[if_pos hneg];decide
    have hpl:=pos_le hq.neg hd sort
    have h0:0≤(-q).num:=by show 0≤-q.num;omega
    have HP:=Lib.hid fun W (hW:Env W)=>formatNum_pos hq.neg hd h0 op sort kids name W hW
    have HQ:=Lib.hid hq
    have HD:=Lib.hid hd
    clear h hb hq hd hneg h0
    go_enter Tryz.func118,Tryz.ntmps118
    go_wp2_with fail
    generalize w.alloc (.cells #[.int .i64 op,.int .i64 sort,.string name,.string (TX q),.int .i64 kids] 57)=w1 at *
    generalize hS:w.heap.size=S at *
    have HS:=Lib.hid hS
    clear hS
    refine (numSignT HQ.out (by have:=HD.out;omega) w1 HE.out).mono ?_
    rintro e w2 ⟨rfl,hb2⟩
    generalize sgnI q.num=sg at *
    have hw2:=(hb2.block _ hlt).trans hw0
    have hlt2:=Nat.lt_of_lt_of_le hlt hb2.size
    have HE2:=Lib.hid (HE.out.far hb2)
    have HB2:=Lib.hid (HB.out.trans (hb2.mono (Nat.le_of_lt hlt)))
    have c3:=heap_cell hw2 3
    clear hb2
    go_wp2_with fail
    refine (numNegT HQ.out (by have:=HD.out;omega) w2 HE2.out).mono ?_
    rintro e w3 ⟨rfl,hb3⟩
    have hw3:=(hb3.block _ hlt2).trans hw2
    have hlt3:=Nat.lt_of_lt_of_le hlt2 hb3.size
    have HE3:=Lib.hid (HE2.out.far hb3)
    have HB3:=Lib.hid (HB2.out.trans (hb3.mono (Nat.le_of_lt hlt2)))
    clear hb3 c3
    have d3:=heap_cell hw3 3
    have fz:=heap_fz hw3 3
    have hw4:=heap_set hw3 3 (.string (TX (-q)))
    have s0:(w3.setCell ⟨S,3,none⟩ (.string (TX (-q)))).cell? ⟨S,0,none⟩=some (.int .i64 op):=heap_cell hw4 0
    have s1:(w3.setCell ⟨S,3,none⟩ (.string (TX (-q)))).cell? ⟨S,1,none⟩=some (.int .i64 sort):=heap_cell hw4 1
    have s2:(w3.setCell ⟨S,3,none⟩ (.string (TX (-q)))).cell? ⟨S,2,none⟩=some (.string name):=heap_cell hw4 2
    have s3:(w3.setCell ⟨S,3,none⟩ (.string (TX (-q)))).cell? ⟨S,3,none⟩=some (.string (TX (-q))):=heap_cell hw4 3
    have s4:(w3.setCell ⟨S,3,none⟩ (.string (TX (-q)))).cell? ⟨S,4,none⟩=some (.int .i64 kids):=heap_cell hw4 4
    have HB4:Hid (Below S w (w3.setCell ⟨S,3,none⟩ (.string (TX (-q))))):=Lib.hid (HB3.out.setCell (show S≤S from Nat.le_refl _) _)
    have HE4:Hid (Env (w3.setCell ⟨S,3,none⟩ (.string (TX (-q))))):=Lib.hid (HE0.out.far (by rw[HS.out];exact HB4.out))
    clear hw4 hw3 hw2 hw0
    go_wp2_with fail
    have hp:=HP.out _ HE4.out
    have hle:S≤(w3.setCell ⟨S,3,none⟩ (.string (TX (-q)))).heap.size:=Nat.le_trans (Nat.le_of_lt hlt3) (by simp[World.setCell])
    generalize w3.setCell ⟨S,3,none⟩ (.string (TX (-q)))=w4 at *
    refine hp.mono ?_
    rintro e w5 ⟨rfl,hb5⟩
    have HB5:=Lib.hid (HB4.out.trans (hb5.mono hle))
    clear hb5 hp
    generalize hpt:posT sort (-q)=pt at *
    go_wp2
    go_ret
    exact ⟨by rw[HF.out];rfl,by rw[HS.out];exact HB5.out⟩
  · have HF:fnT sort q=posT sort q:=by unfold fnT;rw[if_neg hneg]
    rw[HF]
    exact formatNum_pos hq hd (by omega) op sort kids name w h
end
end Go.Proofs.YtpkfnnkbfphfbaaGreatDoor.Se

/- ValueStoreLaws' walk. -/
import Derived.Test.YtpkfnnkbfphfbaaGreatDoorLFD
import Derived.Test.YtpkfnnkbfphfbaaGreatDoorLEU
set_option maxRecDepth 100000
set_option maxHeartbeats 40000000
namespace Go.Proofs.YtpkfnnkbfphfbaaGreatDoor.Se
open Go.RowKit Nmx

def BXA (S B:Nat) (d:Int) (td:ByteArray) (l:Arx.L) (k u:Value) (W:World):Prop:=W.heap[B]? =some (.cells #[.int .i64 4,.bool false,.string td,k,u] 24 (0,0))∧AV S W d l k u
theorem BXA.far {S B:Nat} {d:Int} {td:ByteArray} {l:Arx.L} {k u:Value} {W W':World} (h:BXA S B d td l k u W) (hb:Below W.heap.size W W'):BXA S B d td l k u W':=⟨(hb.block _ (lt_of_heap h.1)).trans h.1,h.2.far hb⟩
theorem BXA.cells {S B:Nat} {d:Int} {td:ByteArray} {l:Arx.L} {k u:Value} {W:World} (h:BXA S B d td l k u W):W.cell? ⟨B,0,none⟩=some (.int .i64 4)∧W.cell? ⟨B,1,none⟩=some (.bool false)∧W.cell? ⟨B,2,none⟩=some (.string td)∧W.cell? ⟨B,3,none⟩=some k∧W.cell? ⟨B,4,none⟩=some u:=
  ⟨heap_cell h.1 0,heap_cell h.1 1,heap_cell h.1 2,heap_cell h.1 3,heap_cell h.1 4⟩
theorem BXA.ch {S B C:Nat} {d:Int} {td:ByteArray} {l:Arx.L} {k u:Value} {W W':World} (h:BXA S B d td l k u W) (hC:C<S) (hB:C<B) (hg:W.grownBy W' (some C)):BXA S B d td l k u W':=
  ⟨(hg.block _ (lt_of_heap h.1) (fun e=>by have:=Option.some.inj e;omega)).trans h.1,h.2.ch hC hg⟩
theorem ch_newV {w:World} {ao:Option Addr} {len cap:Nat} (h:ArgI w ao len cap):Ch w.heap.size ao (min len 400) cap (w.alloc (.cells #[.slice ao (min len 400) cap,.int .i64 0] 60)):=by
  refine ⟨⟨0,Nat.zero_le _,heap_alloc_new w _⟩,by omega,fun hn=>?_⟩
  obtain ⟨b,off,e,hb,hx⟩:=h.rd (by have:=h.le;omega)
  refine ⟨b,off,e,hb,fun t ht=>?_⟩
  obtain ⟨x,hx⟩:=hx t (by omega)
  exact ⟨x,(World.cell?_alloc_past _ _ _ hb).trans hx⟩
theorem at_sm {d:Int} {l:Arx.L} (_:Arx.Vld d l) (hd:Sm d) (hs:∀p∈l,Sm p.1∧Sm p.2) (i:Int):Sm (Arx.atA d l i):=by
  induction l with
  | nil=>exact hd
  | cons p l ih=>
    unfold Arx.atA
    split
    · exact (hs p (by simp)).2
    · exact ih (Arx.Vld.tail ‹_›).2.2 fun q hq=>hs q (by simp[hq])
structure SJ (W0:World) (S:Nat) (d:Int) (td:ByteArray) (l:Arx.L) (l5 l6 l7 l9 l10:Bool) (x5 x6 x7 x9:Value) (W:World):Prop where
  bel:Below W0.heap.size W0 W
  s5:l5=true→∃k' u',x5=.tuple #[.agg #[.int .i64 4,.bool false,.string td,k',u'],.int .i64 0]∧AV S W d l k' u'
  s6:l6=true→x6=x5
  s7:l7=true→x5=.tuple #[x7,.int .i64 0]
  s9:l9=true→∃B,x9=.pointer (some ⟨B,0,none⟩)∧W0.heap.size≤B∧(bif l10 then (∃k' u',x5=.tuple #[.agg #[.int .i64 4,.bool false,.string td,k',u'],.int .i64 0]∧W.heap[B]? =some (.cells #[.int .i64 4,.bool false,.string td,k',u'] 24 (0,0))) else W.heap[B]? =some (.cells #[.int .i64 0,.bool false,.string ⟨#[]⟩,.slice none 0 0,.slice none 0 0] 24 (0,0)))
section
variable {W0:World} {S:Nat} {d:Int} {td:ByteArray} {l:Arx.L} {l5 l6 l7 l9 l10:Bool} {x5 x6 x7 x9:Value} {W W':World}
theorem SJ.far (h:SJ W0 S d td l l5 l6 l7 l9 l10 x5 x6 x7 x9 W) (hb:Below W.heap.size W W'):SJ W0 S d td l l5 l6 l7 l9 l10 x5 x6 x7 x9 W' where
  bel:=h.bel.trans (hb.mono h.bel.size)
  s5:=fun e=>let ⟨k',u',q,hv⟩:=h.s5 e;⟨k',u',q,hv.far hb⟩
  s6:=h.s6
  s7:=h.s7
  s9:=fun e=>by
    obtain ⟨B,q,hB,hx⟩:=h.s9 e
    refine ⟨B,q,hB,?_⟩
    cases l10 with
    | true=>obtain ⟨k',u',q5,hx⟩:=hx;exact ⟨k',u',q5,(hb.block _ (lt_of_heap hx)).trans hx⟩
    | false=>exact (hb.block _ (lt_of_heap hx)).trans hx
theorem SJ.put {k' u':Value} (e6:l6=false) (e7:l7=false) (e10:l10=false) (h:SJ W0 S d td l l5 l6 l7 l9 l10 x5 x6 x7 x9 W) (hav:AV S W d l k' u'):SJ W0 S d td l true l6 l7 l9 l10 (.tuple #[.agg #[.int .i64 4,.bool false,.string td,k',u'],.int .i64 0]) x6 x7 x9 W:=by
  subst e6 e7 e10
  exact ⟨h.bel,fun _=>⟨k',u',rfl,hav⟩,(fun e=>by cases e),(fun e=>by cases e),h.s9⟩
theorem SJ.new (e10:l10=false) (h:SJ W0 S d td l l5 l6 l7 l9 l10 x5 x6 x7 x9 W):SJ W0 S d td l l5 l6 l7 true l10 x5 x6 x7 (.pointer (some ⟨W.heap.size,0,none⟩)) (W.alloc (.cells #[.int .i64 0,.bool false,.string ⟨#[]⟩,.slice none 0 0,.slice none 0 0] 24)):=by
  subst e10
  have hb:=alloc_far' W (.cells #[.int .i64 0,.bool false,.string ⟨#[]⟩,.slice none 0 0,.slice none 0 0] 24)
  exact ⟨h.bel.trans (hb.mono h.bel.size),(h.far hb).s5,h.s6,h.s7,fun _=>⟨_,rfl,h.bel.size,heap_alloc_new W _⟩⟩
theorem SJ.set {k' u':Value} {B:Nat} (h:SJ W0 S d td l l5 l6 l7 l9 false x5 x6 x7 x9 W) (e5:x5=.tuple #[.agg #[.int .i64 4,.bool false,.string td,k',u'],.int .i64 0]) (e9:x9=.pointer (some ⟨B,0,none⟩)) (hB:W0.heap.size≤B) (hbx:W.heap[B]? =some (.cells #[.int .i64 0,.bool false,.string ⟨#[]⟩,.slice none 0 0,.slice none 0 0] 24 (0,0)))
    (s1:W'.heap[B]? =some (.cells #[.int .i64 4,.bool false,.string td,k',u'] 24 (0,0))) (s2:∀b,b≠B→W'.heap[b]? =W.heap[b]?) (s3:∀{A:Nat} {w0:World},Below A w0 W→A≤B→Below A w0 W'):
    SJ W0 S d td l l5 l6 l7 l9 true x5 x6 x7 x9 W' where
  bel:=s3 h.bel hB
  s5:=fun e=>let ⟨k1,u1,q,hv⟩:=h.s5 e;⟨k1,u1,q,hv.blocks fun g _ ⟨cs,fr,hh⟩=>s2 g fun e=>by
    subst e
    have:=hbx.symm.trans hh
    injection Option.some.inj this with _ e2 _
    exact absurd e2 (by decide)⟩
  s6:=h.s6
  s7:=h.s7
  s9:=fun _=>⟨B,e9,hB,k',u',e5,s1⟩
end
theorem equalSame {S S':Nat} {d:Int} {l l':Arx.L} {k u k' u':Value} (w:World) (h:AV S w d l k u) (h':AV S' w d l' k' u') (e:l=l'):
    Calls Tryz.prog 22 #[valV 4 false (TI d) k u,valV 4 false (TI d) k' u'] w fun e w'=>e=.returned (.bool true)∧Below w.heap.size w w':=
  (equalV w h h').mono fun _ _ ⟨q,hb⟩=>⟨by rw[q,decide_eq_true ⟨rfl,e⟩],hb⟩
section
theorem store_law (ao:Option Addr) (len cap:Nat) (w:World) (hE:Env w) (h:ArgI w ao len cap):Calls Tryz.prog 5 #[.slice ao len cap] w fun e w'=>e=.returned (.bool true)∧Below w.heap.size w w':=by
  have hnew:=new_any ao len cap w h
  obtain ⟨C,hC⟩:∃C,w.heap.size=C:=⟨_,rfl⟩
  have hch0:=ch_newV h
  have HCE:=Lib.hid hC
  have HE:=Lib.hid hE
  rw[hC] at hch0
  unfold NewPost at hnew
  rw[hC] at hnew ⊢
  have hal:=alloc_far' w (.cells #[.slice ao (min len 400) cap,.int .i64 0] 60)
  rw[hC] at hal
  generalize hw1:w.alloc (.cells #[.slice ao (min len 400) cap,.int .i64 0] 60)=w1 at *
  have HSZ:Hid (w1.heap.size=C+1):=Lib.hid (by rw[←hw1,←hC];simp)
  have HCH:=Lib.hid hch0
  have HB1:=Lib.hid hal
  clear hw1 h hC hch0 hE hal
  go_enter Tryz.func5,Tryz.ntmps5
  go_wp2_with fail
  refine hnew.mono ?_
  rintro e w2 ⟨rfl,rfl⟩
  clear hnew
  have HGA:=Lib.hid (genArr C ao (min len 400) cap w2 HCH.out)
  go_wp2_with fail
  refine HGA.out.mono ?_
  rintro e w3 ⟨d,l,k0,u0,rfl,hav,hl3,hch,hg⟩
  obtain ⟨a1,c1,a2,c2,rfl,rfl⟩:=hav.form
  unfold valV
  have ha:=alloc_far' w3 (.cells #[.int .i64 4,.bool false,.string (TI d),.slice a1 l.length c1,.slice a2 l.length c2] 24)
  have HAa:Hid (BXA (C+1) w3.heap.size d (TI d) l (.slice a1 l.length c1) (.slice a2 l.length c2) (w3.alloc (.cells #[.int .i64 4,.bool false,.string (TI d),.slice a1 l.length c1,.slice a2 l.length c2] 24))):=Lib.hid ⟨heap_alloc_new w3 _,(hav.down (by have:=HSZ.out;omega)).far ha⟩
  have HB3:=Lib.hid ((HB1.out.grown hg (by have:=HSZ.out;omega) (fun k e=>by have:=Option.some.inj e;omega)).trans (ha.mono (by have:=hg.size;have:=HSZ.out;omega)))
  have HC3:=Lib.hid (hch.call ha)
  have HLA:Hid (C<w3.heap.size):=Lib.hid (by have:=hg.size;have:=HSZ.out;omega)
  have HL3:Hid (l.length≤3):=Lib.hid hl3
  have HVL:Hid (Arx.Vld d l):=Lib.hid hav.vd
  clear hav hch hg ha hl3 HGA HCH HB1
  have HLT0:Hid (C<(w3.alloc (.cells #[.int .i64 4,.bool false,.string (TI d),.slice a1 l.length c1,.slice a2 l.length c2] 24)).heap.size):=Lib.hid (by have:=HLA.out;simp;omega)
  go_upto_region 3 with fail
  generalize hA:w3.heap.size=A at *
  generalize hw4:w3.alloc _=w4 at *
  clear hA hw4
  have HI0:=Lib.hid (integer_any C ao (min len 400) cap w4 HC3.out)
  go_wp2_with fail
  refine HI0.out.mono ?_
  rintro e u0 ⟨i,hi,rfl,hch,hg⟩
  have HSi:Hid (Sm i):=Lib.hid (Nat.lt_trans hi (by decide))
  have HCi0:=Lib.hid hch
  have HAi0:=Lib.hid (HAa.out.ch (by omega) HLA.out hg)
  have HBi0:=Lib.hid (HB3.out.grown hg (by have:=HLT0.out;omega) (fun k e=>by have:=Option.some.inj e;omega))
  have HLT1:Hid (C<u0.heap.size):=Lib.hid hch.lt
  clear hi hch hg HI0 HC3 HAa HB3
  have HI1:=Lib.hid (integer_any C ao (min len 400) cap u0 HCi0.out)
  go_wp2_with fail
  refine HI1.out.mono ?_
  rintro e u1 ⟨j,hj,rfl,hch,hg⟩
  have HSj:Hid (Sm j):=Lib.hid (Nat.lt_trans hj (by decide))
  have HCi1:=Lib.hid hch
  have HAi1:=Lib.hid (HAi0.out.ch (by omega) HLA.out hg)
  have HBi1:=Lib.hid (HBi0.out.grown hg (by have:=HLT1.out;omega) (fun k e=>by have:=Option.some.inj e;omega))
  have HLT2:Hid (C<u1.heap.size):=Lib.hid hch.lt
  clear hj hch hg HI1 HCi0 HAi0 HBi0
  have HI2:=Lib.hid (integer_any C ao (min len 400) cap u1 HCi1.out)
  go_wp2_with fail
  refine HI2.out.mono ?_
  rintro e u2 ⟨m,hm,rfl,hch,hg⟩
  have HSm:Hid (Sm m):=Lib.hid (Nat.lt_trans hm (by decide))
  have HCi2:=Lib.hid hch
  have HAi2:=Lib.hid (HAi1.out.ch (by omega) HLA.out hg)
  have HBi2:=Lib.hid (HBi1.out.grown hg (by have:=HLT2.out;omega) (fun k e=>by have:=Option.some.inj e;omega))
  have HLT3:Hid (C<u2.heap.size):=Lib.hid hch.lt
  clear hm hch hg HI2 HCi1 HAi1 HBi1
  have HI3:=Lib.hid (integer_any C ao (min len 400) cap u2 HCi2.out)
  go_wp2_with fail
  refine HI3.out.mono ?_
  rintro e u3 ⟨n,hn,rfl,hch,hg⟩
  have HSn:Hid (Sm n):=Lib.hid (Nat.lt_trans hn (by decide))
  have HCi3:=Lib.hid hch
  have HAi3:=Lib.hid (HAi2.out.ch (by omega) HLA.out hg)
  have HBi3:=Lib.hid (HBi2.out.grown hg (by have:=HLT3.out;omega) (fun k e=>by have:=Option.some.inj e;omega))
  have HLT4:Hid (C<u3.heap.size):=Lib.hid hch.lt
  clear hn hch hg HI3 HCi2 HAi2 HBi2
  simp only[show ∀z:Int,TX (z:Rat)=TI z from fun _=>rfl]
  obtain ⟨b0,b1,b2,b3,b4⟩:=HAi3.out.cells
  have hst:=storeV u3 (HE.out.far (by rw[HCE.out];exact HBi3.out)) HAi3.out.2 HSi.out HSm.out (by have:=HL3.out;first | omega | (have:=Arx.st_len d l i m;have:=Arx.st_len d l j n;omega))
  unfold valV at hst
  go_wp2_with fail
  refine hst.mono ?_
  rintro e v1 ⟨kk,uu,rfl,hav,hb⟩
  obtain ⟨p1,q1,r1,s1,rfl,rfl⟩:=hav.form
  have ha:=alloc_far' v1 (.cells #[.int .i64 4,.bool false,.string (TI d),.slice p1 (Arx.stA d (l) i m).length q1,.slice r1 (Arx.stA d (l) i m).length s1] 24)
  have hba:=hb.trans (ha.mono hb.size)
  have HX1b:Hid (BXA (C+1) v1.heap.size d (TI d) (Arx.stA d (l) i m) (.slice p1 (Arx.stA d (l) i m).length q1) (.slice r1 (Arx.stA d (l) i m).length s1) (v1.alloc (.cells #[.int .i64 4,.bool false,.string (TI d),.slice p1 (Arx.stA d (l) i m).length q1,.slice r1 (Arx.stA d (l) i m).length s1] 24))):=Lib.hid ⟨heap_alloc_new v1 _,(hav.down (by have:=HLT4.out;omega)).far ha⟩
  have HX1a:=Lib.hid (HAi3.out.far hba)
  have HBX1:=Lib.hid (HBi3.out.trans (hba.mono (Nat.le_of_lt HLT4.out)))
  have HLX1:Hid (C<(v1.alloc (.cells #[.int .i64 4,.bool false,.string (TI d),.slice p1 (Arx.stA d (l) i m).length q1,.slice r1 (Arx.stA d (l) i m).length s1] 24)).heap.size):=Lib.hid (Nat.lt_of_lt_of_le HLT4.out hba.size)
  clear hst hav hb ha hba HAi3 HBi3 HLT4 b0 b1 b2 b3 b4
  go_upto_region 5 with fail
  generalize hY:v1.heap.size=Yb at *
  generalize hw1:v1.alloc _=z1 at *
  clear hY hw1
  obtain ⟨e0,e1,e2,e3,e4⟩:=HX1b.out.cells
  have hst:=storeV z1 (HE.out.far (by rw[HCE.out];exact HBX1.out)) HX1b.out.2 HSj.out HSn.out (by have:=HL3.out;first | omega | (have:=Arx.st_len d l i m;have:=Arx.st_len d l j n;omega))
  unfold valV at hst
  go_wp2_with fail
  refine hst.mono ?_
  rintro e v2 ⟨kk,uu,rfl,hav,hb⟩
  obtain ⟨p2,q2,r2,s2,rfl,rfl⟩:=hav.form
  have ha:=alloc_far' v2 (.cells #[.int .i64 4,.bool false,.string (TI d),.slice p2 (Arx.stA d (Arx.stA d (l) i m) j n).length q2,.slice r2 (Arx.stA d (Arx.stA d (l) i m) j n).length s2] 24)
  have hba:=hb.trans (ha.mono hb.size)
  have HX2e:Hid (BXA (C+1) v2.heap.size d (TI d) (Arx.stA d (Arx.stA d (l) i m) j n) (.slice p2 (Arx.stA d (Arx.stA d (l) i m) j n).length q2) (.slice r2 (Arx.stA d (Arx.stA d (l) i m) j n).length s2) (v2.alloc (.cells #[.int .i64 4,.bool false,.string (TI d),.slice p2 (Arx.stA d (Arx.stA d (l) i m) j n).length q2,.slice r2 (Arx.stA d (Arx.stA d (l) i m) j n).length s2] 24))):=Lib.hid ⟨heap_alloc_new v2 _,(hav.down (by have:=HLX1.out;omega)).far ha⟩
  have HX2a:=Lib.hid (HX1a.out.far hba)
  have HX2b:=Lib.hid (HX1b.out.far hba)
  have HBX2:=Lib.hid (HBX1.out.trans (hba.mono (Nat.le_of_lt HLX1.out)))
  have HLX2:Hid (C<(v2.alloc (.cells #[.int .i64 4,.bool false,.string (TI d),.slice p2 (Arx.stA d (Arx.stA d (l) i m) j n).length q2,.slice r2 (Arx.stA d (Arx.stA d (l) i m) j n).length s2] 24)).heap.size):=Lib.hid (Nat.lt_of_lt_of_le HLX1.out hba.size)
  clear hst hav hb ha hba HX1a HX1b HBX1 HLX1 e0 e1 e2 e3 e4
  go_upto_region 6 with fail
  generalize hY:v2.heap.size=Ye at *
  generalize hw2:v2.alloc _=z2 at *
  clear hY hw2
  have HWE:Hid (∀W,Below z2.heap.size z2 W→Env W):=Lib.hid fun W hW=>HE.out.far (by rw[HCE.out];exact HBX2.out.trans (hW.mono (Nat.le_of_lt HLX2.out)))
  have HVB:=Lib.hid fun (W:World) (hW:Below z2.heap.size z2 W)=>valid_av W (HWE.out W hW) (HX2b.out.2.far hW)
  have HT1:=Lib.hid fun (W:World) (hW:Below z2.heap.size z2 W)=>atV W (HWE.out W hW) (HX2b.out.2.far hW) HSi.out
  have HT2:=Lib.hid fun (W:World) (hW:Below z2.heap.size z2 W)=>atV W (HWE.out W hW) (HX2b.out.2.far hW) HSj.out
  have HT3:=Lib.hid fun (W:World) (hW:Below z2.heap.size z2 W)=>atV W (HWE.out W hW) (HX2a.out.2.far hW) HSj.out
  rw[Arx.at_st_same HVL.out] at HT1
  have hem:((TI m).toList==(TI m).toList)=true:=by rw[ti_eq];exact decide_eq_true rfl
  have hej:((TI (Arx.atA d l j)).toList==(TI (Arx.atA d l j)).toList)=true:=by rw[ti_eq];exact decide_eq_true rfl
  have hij0:=ti_eq i j
  unfold valV at HVB HT1 HT2 HT3
  go_cut [80] from 49 to 81 (fun c wx=>c=.bool false∧Below z2.heap.size z2 wx)
  case first=>
    have HBa:Hid (∀W,Below z2.heap.size z2 W→BXA (C+1) A d (TI d) l (.slice a1 l.length c1) (.slice a2 l.length c2) W):=Lib.hid fun W hW=>HX2a.out.far hW
    have HBb:=Lib.hid fun W (hW:Below z2.heap.size z2 W)=>HX2b.out.far hW
    by_cases hij:i=j
    · rw[decide_eq_true hij] at hij0
      clear hij
      refine q_region (fun W=>Below z2.heap.size z2 W) (by kernel_rfl) (by kernel_rfl) (Below.refl _ _).drew ?_
      repeat (first
        | (refine q_skip ?_ ?_
           · (go_simp;done)
           simp only[Act.put,List.setIfInBounds_toArray,List.set_cons_zero,List.set_cons_succ])
        | (refine q_take (v:= ?_) ?_ ?_ ?_
           rotate_left
           · (go_simp;done)
           · intro W hW
             obtain ⟨x0,x1,x2,x3,x4⟩:=(HBa.out W hW).cells
             obtain ⟨y0,y1,y2,y3,y4⟩:=(HBb.out W hW).cells
             go_simp
             first
             | with_reducible rfl
             | (go_at_call 12;with_reducible refine (HVB.out W hW).mono ?_;rintro e u ⟨rfl,hb⟩;refine ⟨?_,hW.trans (hb.mono hW.size)⟩;with_reducible rfl)
             | (go_at_call 20;(first | with_reducible refine (HT1.out W hW).mono ?_ | with_reducible refine (HT2.out W hW).mono ?_ | with_reducible refine (HT3.out W hW).mono ?_);rintro e u ⟨rfl,hb⟩;refine ⟨?_,hW.trans (hb.mono hW.size)⟩;with_reducible rfl)
           simp only[Act.put,List.setIfInBounds_toArray,List.set_cons_zero,List.set_cons_succ]))
      refine q_nil ?_
      intro w8 hw8
      have HW8:=Lib.hid hw8
      clear hw8
      go_wp2_with fail
      go_meet
      case rel=>exact ⟨rfl,HW8.out⟩
    · rw[decide_eq_false hij] at hij0
      rw[Arx.at_st_other m (show j≠i from fun e=>hij e.symm)] at HT2
      clear hij
      refine q_region (fun W=>Below z2.heap.size z2 W) (by kernel_rfl) (by kernel_rfl) (Below.refl _ _).drew ?_
      repeat (first
        | (refine q_skip ?_ ?_
           · (go_simp;done)
           simp only[Act.put,List.setIfInBounds_toArray,List.set_cons_zero,List.set_cons_succ])
        | (refine q_take (v:= ?_) ?_ ?_ ?_
           rotate_left
           · (go_simp;done)
           · intro W hW
             obtain ⟨x0,x1,x2,x3,x4⟩:=(HBa.out W hW).cells
             obtain ⟨y0,y1,y2,y3,y4⟩:=(HBb.out W hW).cells
             go_simp
             first
             | with_reducible rfl
             | (go_at_call 12;with_reducible refine (HVB.out W hW).mono ?_;rintro e u ⟨rfl,hb⟩;refine ⟨?_,hW.trans (hb.mono hW.size)⟩;with_reducible rfl)
             | (go_at_call 20;(first | with_reducible refine (HT1.out W hW).mono ?_ | with_reducible refine (HT2.out W hW).mono ?_ | with_reducible refine (HT3.out W hW).mono ?_);rintro e u ⟨rfl,hb⟩;refine ⟨?_,hW.trans (hb.mono hW.size)⟩;with_reducible rfl)
           simp only[Act.put,List.setIfInBounds_toArray,List.set_cons_zero,List.set_cons_succ]))
      refine q_nil ?_
      intro w8 hw8
      have HW8:=Lib.hid hw8
      clear hw8
      go_wp2_with fail
      go_meet
      case rel=>exact ⟨rfl,HW8.out⟩
  case rest=>
  obtain ⟨rfl,hbx⟩:=hcut
  clear HVB HT1 HT2 HT3 HWE hem hej hij0
  have HF6a:=Lib.hid (HX2a.out.far hbx)
  have HF6b:=Lib.hid (HX2b.out.far hbx)
  have HF6e:=Lib.hid (HX2e.out.far hbx)
  have HBF6:=Lib.hid (HBX2.out.trans (hbx.mono (Nat.le_of_lt HLX2.out)))
  have HLF6:Hid (C<wc.heap.size):=Lib.hid (Nat.lt_of_lt_of_le HLX2.out hbx.size)
  clear hbx HX2a HX2b HX2e HBX2 HLX2
  go_upto_region 8 with fail
  obtain ⟨g0,g1,g2,g3,g4⟩:=HF6a.out.cells
  have hst:=storeV wc (HE.out.far (by rw[HCE.out];exact HBF6.out)) HF6a.out.2 HSj.out HSn.out (by have:=HL3.out;first | omega | (have:=Arx.st_len d l i m;have:=Arx.st_len d l j n;omega))
  unfold valV at hst
  go_wp2_with fail
  refine hst.mono ?_
  rintro e v3 ⟨kk,uu,rfl,hav,hb⟩
  obtain ⟨p3,q3,r3,s3,rfl,rfl⟩:=hav.form
  have ha:=alloc_far' v3 (.cells #[.int .i64 4,.bool false,.string (TI d),.slice p3 (Arx.stA d (l) j n).length q3,.slice r3 (Arx.stA d (l) j n).length s3] 24)
  have hba:=hb.trans (ha.mono hb.size)
  have HX3g:Hid (BXA (C+1) v3.heap.size d (TI d) (Arx.stA d (l) j n) (.slice p3 (Arx.stA d (l) j n).length q3) (.slice r3 (Arx.stA d (l) j n).length s3) (v3.alloc (.cells #[.int .i64 4,.bool false,.string (TI d),.slice p3 (Arx.stA d (l) j n).length q3,.slice r3 (Arx.stA d (l) j n).length s3] 24))):=Lib.hid ⟨heap_alloc_new v3 _,(hav.down (by have:=HLF6.out;omega)).far ha⟩
  have HX3a:=Lib.hid (HF6a.out.far hba)
  have HX3b:=Lib.hid (HF6b.out.far hba)
  have HX3e:=Lib.hid (HF6e.out.far hba)
  have HBX3:=Lib.hid (HBF6.out.trans (hba.mono (Nat.le_of_lt HLF6.out)))
  have HLX3:Hid (C<(v3.alloc (.cells #[.int .i64 4,.bool false,.string (TI d),.slice p3 (Arx.stA d (l) j n).length q3,.slice r3 (Arx.stA d (l) j n).length s3] 24)).heap.size):=Lib.hid (Nat.lt_of_lt_of_le HLF6.out hba.size)
  clear hst hav hb ha hba HF6a HF6b HF6e HBF6 HLF6 g0 g1 g2 g3 g4
  go_upto_region 9 with fail
  generalize hY:v3.heap.size=Yg at *
  generalize hw3:v3.alloc _=z3 at *
  clear hY hw3
  obtain ⟨f0,f1,f2,f3,f4⟩:=HX3g.out.cells
  have hst:=storeV z3 (HE.out.far (by rw[HCE.out];exact HBX3.out)) HX3g.out.2 HSi.out HSm.out (by have:=HL3.out;first | omega | (have:=Arx.st_len d l i m;have:=Arx.st_len d l j n;omega))
  unfold valV at hst
  go_wp2_with fail
  refine hst.mono ?_
  rintro e v4 ⟨kk,uu,rfl,hav,hb⟩
  obtain ⟨p4,q4,r4,s4,rfl,rfl⟩:=hav.form
  have ha:=alloc_far' v4 (.cells #[.int .i64 4,.bool false,.string (TI d),.slice p4 (Arx.stA d (Arx.stA d (l) j n) i m).length q4,.slice r4 (Arx.stA d (Arx.stA d (l) j n) i m).length s4] 24)
  have hba:=hb.trans (ha.mono hb.size)
  have HX4f:Hid (BXA (C+1) v4.heap.size d (TI d) (Arx.stA d (Arx.stA d (l) j n) i m) (.slice p4 (Arx.stA d (Arx.stA d (l) j n) i m).length q4) (.slice r4 (Arx.stA d (Arx.stA d (l) j n) i m).length s4) (v4.alloc (.cells #[.int .i64 4,.bool false,.string (TI d),.slice p4 (Arx.stA d (Arx.stA d (l) j n) i m).length q4,.slice r4 (Arx.stA d (Arx.stA d (l) j n) i m).length s4] 24))):=Lib.hid ⟨heap_alloc_new v4 _,(hav.down (by have:=HLX3.out;omega)).far ha⟩
  have HX4a:=Lib.hid (HX3a.out.far hba)
  have HX4b:=Lib.hid (HX3b.out.far hba)
  have HX4e:=Lib.hid (HX3e.out.far hba)
  have HX4g:=Lib.hid (HX3g.out.far hba)
  have HBX4:=Lib.hid (HBX3.out.trans (hba.mono (Nat.le_of_lt HLX3.out)))
  have HLX4:Hid (C<(v4.alloc (.cells #[.int .i64 4,.bool false,.string (TI d),.slice p4 (Arx.stA d (Arx.stA d (l) j n) i m).length q4,.slice r4 (Arx.stA d (Arx.stA d (l) j n) i m).length s4] 24)).heap.size):=Lib.hid (Nat.lt_of_lt_of_le HLX3.out hba.size)
  clear hst hav hb ha hba HX3a HX3b HX3e HX3g HBX3 HLX3 f0 f1 f2 f3 f4
  go_upto_region 10 with fail
  generalize hY:v4.heap.size=Yf at *
  generalize hw4:v4.alloc _=z4 at *
  clear hY hw4
  have HBA:Hid (∀W,Below z4.heap.size z4 W→BXA (C+1) A d (TI d) l (.slice a1 l.length c1) (.slice a2 l.length c2) W):=Lib.hid fun W hW=>HX4a.out.far hW
  have HWE:Hid (∀W,Below z4.heap.size z4 W→Env W):=Lib.hid fun W hW=>HE.out.far (by rw[HCE.out];exact HBX4.out.trans (hW.mono (Nat.le_of_lt HLX4.out)))
  have HLC:Hid (C+1≤z4.heap.size):=Lib.hid (by have:=HLX4.out;omega)
  have HT4:=Lib.hid fun (W:World) (hW:Below z4.heap.size z4 W)=>atV W (HWE.out W hW) (HBA.out W hW).2 HSi.out
  have HS4:=Lib.hid fun (W:World) (hW:Below z4.heap.size z4 W)=>storeV W (HWE.out W hW) (HBA.out W hW).2 HSi.out (at_sm HVL.out (HBA.out W hW).2.sd (HBA.out W hW).2.sl i) (by have:=HL3.out;omega)
  unfold valV at HT4 HS4
  refine inv_region [[],[],[],[],[2,3],[0,1,2,3,4],[0,1,2,3,4,5],[0,1,2,3,4,5,6],[0,1,2,3,4,5,6],[],[0,1,2,3,4,5,6,7,9],[0,1,2,3,4,5,6,7,8,9,10]] (fun y L W=>SJ z4 (C+1) d (TI d) (Arx.stA d l i (Arx.atA d l i)) (L 5) (L 6) (L 7) (L 9) (L 10) (y 5) (y 6) (y 7) (y 9) W) ?_
  apply j_con
  · intro y;go_simp;done
  · intro y L W R hJ h1 h2 h3 hR
    obtain ⟨x0,x1,x2,x3,x4⟩:=(HBA.out W hJ.bel).cells
    unfold addAt
    go_simp
    simp only[addUpon]
    exact hR _ hJ
  simp only[Act.put,List.setIfInBounds_toArray,List.set_cons_zero,List.set_cons_succ]
  apply j_con
  · intro y;go_simp;done
  · intro y L W R hJ h1 h2 h3 hR
    unfold addAt
    go_simp
    simp only[addUpon]
    exact hR _ hJ
  simp only[Act.put,List.setIfInBounds_toArray,List.set_cons_zero,List.set_cons_succ]
  apply j_con
  · intro y;go_simp;done
  · intro y L W R hJ h1 h2 h3 hR
    obtain ⟨x0,x1,x2,x3,x4⟩:=(HBA.out W hJ.bel).cells
    unfold addAt
    go_simp
    simp only[addUpon]
    exact hR _ hJ
  simp only[Act.put,List.setIfInBounds_toArray,List.set_cons_zero,List.set_cons_succ]
  apply j_con
  · intro y;go_simp;done
  · intro y L W R hJ h1 h2 h3 hR
    unfold addAt
    go_simp
    simp only[addUpon]
    exact hR _ hJ
  simp only[Act.put,List.setIfInBounds_toArray,List.set_cons_zero,List.set_cons_succ]
  apply j_con
  · intro y;go_simp;done
  · intro y L W R hJ h1 h2 h3 hR
    unfold addAt
    go_simp
    simp only[addUpon]
    refine (HT4.out W hJ.bel).mono ?_
    rintro e w' ⟨rfl,hb⟩
    exact ⟨_,rfl,hR _ (hJ.far hb)⟩
  simp only[Act.put,List.setIfInBounds_toArray,List.set_cons_zero,List.set_cons_succ]
  apply j_any
  · intro y;go_simp;done
  · intro y L W R hJ h1 h2 h3 hR
    have HJ:=Lib.hid hJ
    clear hJ
    unfold addAt
    go_simp
    simp only[addUpon]
    refine (HS4.out W HJ.out.bel).mono ?_
    rintro e w' ⟨k',u',rfl,hav,hb⟩
    have hf:=HJ.out.far hb
    have hq:=SJ.put (k':=k') (u':=u') (h3 6 (show (5:Nat)∈([0,1,2,3,4,5]:List Nat) by decide)) (h3 7 (show (5:Nat)∈([0,1,2,3,4,5,6]:List Nat) by decide)) (h3 10 (show (5:Nat)∈([0,1,2,3,4,5,6,7,9]:List Nat) by decide)) hf (hav.down (Nat.le_trans HLC.out HJ.out.bel.size))
    exact ⟨_,rfl,hR _ _ hq⟩
  simp only[Act.put,List.setIfInBounds_toArray,List.set_cons_zero,List.set_cons_succ,List.length_cons,List.length_nil,Nat.zero_add,Nat.reduceAdd]
  apply j_any
  · intro y;go_simp;done
  · intro y L W R hJ h1 h2 h3 hR
    unfold addAt
    go_simp
    simp only[addUpon]
    exact hR _ _ ⟨hJ.bel,hJ.s5,fun _=>rfl,hJ.s7,hJ.s9⟩
  simp only[Act.put,List.setIfInBounds_toArray,List.set_cons_zero,List.set_cons_succ,List.length_cons,List.length_nil,Nat.zero_add,Nat.reduceAdd]
  apply j_any
  · intro y;go_simp;done
  · intro y L W R hJ h1 h2 h3 hR
    obtain ⟨k',u',q5,-⟩:=hJ.s5 (h1 5 (show (5:Nat)∈([0,1,2,3,4,5,6]:List Nat) by decide))
    have q6:y 6=y 5:=hJ.s6 (h1 6 (show (6:Nat)∈([0,1,2,3,4,5,6]:List Nat) by decide))
    rw[q6,q5]
    unfold addAt
    go_simp
    simp only[addUpon]
    exact hR _ _ ⟨hJ.bel,hJ.s5,hJ.s6,fun _=>q5,hJ.s9⟩
  simp only[Act.put,List.setIfInBounds_toArray,List.set_cons_zero,List.set_cons_succ,List.length_cons,List.length_nil,Nat.zero_add,Nat.reduceAdd]
  apply j_any
  · intro y;go_simp;done
  · intro y L W R hJ h1 h2 h3 hR
    obtain ⟨k',u',q5,-⟩:=hJ.s5 (h1 5 (show (5:Nat)∈([0,1,2,3,4,5,6]:List Nat) by decide))
    have q6:y 6=y 5:=hJ.s6 (h1 6 (show (6:Nat)∈([0,1,2,3,4,5,6]:List Nat) by decide))
    rw[q6,q5]
    unfold addAt
    go_simp
    simp only[addUpon]
    exact hR _ _ hJ
  simp only[Act.put,List.setIfInBounds_toArray,List.set_cons_zero,List.set_cons_succ,List.length_cons,List.length_nil,Nat.zero_add,Nat.reduceAdd]
  apply j_any
  · intro y;go_simp;done
  · intro y L W R hJ h1 h2 h3 hR
    have HJ:=Lib.hid (SJ.new (h3 10 (show (9:Nat)∈([0,1,2,3,4,5,6,7,9]:List Nat) by decide)) hJ)
    clear hJ
    unfold addAt
    go_simp
    simp only[addUpon]
    exact hR _ _ HJ.out
  simp only[Act.put,List.setIfInBounds_toArray,List.set_cons_zero,List.set_cons_succ,List.length_cons,List.length_nil,Nat.zero_add,Nat.reduceAdd]
  apply j_any
  · intro y;go_simp;done
  · intro y L W R hJ h1 h2 h3 hR
    have l10:L 10=false:=h2
    have hJ':=hJ
    rw[l10] at hJ'
    obtain ⟨k',u',q5,hav⟩:=hJ.s5 (h1 5 (show (5:Nat)∈([0,1,2,3,4,5,6,7,9]:List Nat) by decide))
    have q7:y 7=.agg #[.int .i64 4,.bool false,.string (TI d),k',u']:=by simpa using (hJ.s7 (h1 7 (show (7:Nat)∈([0,1,2,3,4,5,6,7,9]:List Nat) by decide))).symm.trans q5
    obtain ⟨B,q9,hB,hbx⟩:=hJ'.s9 (h1 9 (show (9:Nat)∈([0,1,2,3,4,5,6,7,9]:List Nat) by decide))
    obtain ⟨b1,e1,b2,e2,rfl,rfl⟩:=hav.form
    have hbx:W.heap[B]? =some (.cells #[.int .i64 0,.bool false,.string ⟨#[]⟩,.slice none 0 0,.slice none 0 0] 24 (0,0)):=hbx
    have cz0:=heap_cell hbx 0
    have cf0:=heap_fz hbx 0
    have cz1:=heap_cell hbx 1
    have cf1:=heap_fz hbx 1
    have cz2:=heap_cell hbx 2
    have cf2:=heap_fz hbx 2
    have cz3:=heap_cell hbx 3
    have cf3:=heap_fz hbx 3
    have cz4:=heap_cell hbx 4
    have cf4:=heap_fz hbx 4
    obtain ⟨s1,s2,s3⟩:=set5 hbx (.int .i64 4) (.bool false) (.string (TI d)) (.slice b1 (Arx.stA d l i (Arx.atA d l i)).length e1) (.slice b2 (Arx.stA d l i (Arx.atA d l i)).length e2)
    have HJ:=Lib.hid (hJ'.set q5 q9 hB hbx s1 s2 s3)
    clear hJ hJ' hbx s1 s2 s3 hav
    rw[q7,q9]
    unfold addAt
    go_simp
    simp only[addUpon]
    exact hR _ _ HJ.out
  simp only[Act.put]
  apply j_any
  · intro y;go_simp;done
  · intro y L W R hJ h1 h2 h3 hR
    unfold addAt
    go_simp
    simp only[addUpon]
    exact hR _ _ hJ
  simp only[Act.put]
  refine j_nil (by kernel_rfl) (by kernel_rfl) ⟨(Below.refl _ _).drew,(fun e=>by cases e),(fun e=>by cases e),(fun e=>by cases e),(fun e=>by cases e)⟩ ?_
  intro y L wc hJ hL
  obtain ⟨k1,u1,q5,hav⟩:=hJ.s5 (hL 5 (show 5<12 by decide))
  obtain ⟨Ys,q9,-,hq⟩:=hJ.s9 (hL 9 (show 9<12 by decide))
  rw[hL 10 (show 10<12 by decide)] at hq
  obtain ⟨k2,u2,q5',hbx0⟩:=hq
  have q8:k1=k2∧u1=u2:=by simpa using q5.symm.trans q5'
  obtain ⟨rfl,rfl⟩:=q8
  obtain ⟨p9,qq9,r9,ss9,rfl,rfl⟩:=hav.form
  have HXs:Hid (BXA (C+1) Ys d (TI d) (Arx.stA d l i (Arx.atA d l i)) (.slice p9 (Arx.stA d l i (Arx.atA d l i)).length qq9) (.slice r9 (Arx.stA d l i (Arx.atA d l i)).length ss9) wc):=Lib.hid ⟨hbx0,hav⟩
  have hbx:=hJ.bel
  rw[q9]
  clear hJ hL hav q5 q5' q9 hbx0 HBA HWE HLC HT4 HS4
  have HF7a:=Lib.hid (HX4a.out.far hbx)
  have HF7b:=Lib.hid (HX4b.out.far hbx)
  have HF7e:=Lib.hid (HX4e.out.far hbx)
  have HF7g:=Lib.hid (HX4g.out.far hbx)
  have HF7f:=Lib.hid (HX4f.out.far hbx)
  have HBF7:=Lib.hid (HBX4.out.trans (hbx.mono (Nat.le_of_lt HLX4.out)))
  have HLF7:Hid (C<wc.heap.size):=Lib.hid (Nat.lt_of_lt_of_le HLX4.out hbx.size)
  clear hbx HX4a HX4b HX4e HX4g HX4f HBX4 HLX4
  go_upto_region 11 with fail
  obtain ⟨t0,t1,t2,t3,t4⟩:=HF7b.out.cells
  have hst:=storeV wc (HE.out.far (by rw[HCE.out];exact HBF7.out)) HF7b.out.2 HSi.out HSn.out (by have:=HL3.out;first | omega | (have:=Arx.st_len d l i m;have:=Arx.st_len d l j n;omega))
  unfold valV at hst
  go_wp2_with fail
  refine hst.mono ?_
  rintro e v5 ⟨kk,uu,rfl,hav,hb⟩
  obtain ⟨p5,q5,r5,s5,rfl,rfl⟩:=hav.form
  have ha:=alloc_far' v5 (.cells #[.int .i64 4,.bool false,.string (TI d),.slice p5 (Arx.stA d (Arx.stA d (l) i m) i n).length q5,.slice r5 (Arx.stA d (Arx.stA d (l) i m) i n).length s5] 24)
  have hba:=hb.trans (ha.mono hb.size)
  have HX5t:Hid (BXA (C+1) v5.heap.size d (TI d) (Arx.stA d (Arx.stA d (l) i m) i n) (.slice p5 (Arx.stA d (Arx.stA d (l) i m) i n).length q5) (.slice r5 (Arx.stA d (Arx.stA d (l) i m) i n).length s5) (v5.alloc (.cells #[.int .i64 4,.bool false,.string (TI d),.slice p5 (Arx.stA d (Arx.stA d (l) i m) i n).length q5,.slice r5 (Arx.stA d (Arx.stA d (l) i m) i n).length s5] 24))):=Lib.hid ⟨heap_alloc_new v5 _,(hav.down (by have:=HLF7.out;omega)).far ha⟩
  have HX5a:=Lib.hid (HF7a.out.far hba)
  have HX5b:=Lib.hid (HF7b.out.far hba)
  have HX5e:=Lib.hid (HF7e.out.far hba)
  have HX5g:=Lib.hid (HF7g.out.far hba)
  have HX5f:=Lib.hid (HF7f.out.far hba)
  have HX5s:=Lib.hid (HXs.out.far hba)
  have HBX5:=Lib.hid (HBF7.out.trans (hba.mono (Nat.le_of_lt HLF7.out)))
  have HLX5:Hid (C<(v5.alloc (.cells #[.int .i64 4,.bool false,.string (TI d),.slice p5 (Arx.stA d (Arx.stA d (l) i m) i n).length q5,.slice r5 (Arx.stA d (Arx.stA d (l) i m) i n).length s5] 24)).heap.size):=Lib.hid (Nat.lt_of_lt_of_le HLF7.out hba.size)
  clear hst hav hb ha hba HF7a HF7b HF7e HF7g HF7f HXs HBF7 HLF7 t0 t1 t2 t3 t4
  go_upto_region 12 with fail
  generalize hY:v5.heap.size=Yt at *
  generalize hw5:v5.alloc _=z5 at *
  clear hY hw5
  obtain ⟨o0,o1,o2,o3,o4⟩:=HX5a.out.cells
  have hst:=storeV z5 (HE.out.far (by rw[HCE.out];exact HBX5.out)) HX5a.out.2 HSi.out HSn.out (by have:=HL3.out;first | omega | (have:=Arx.st_len d l i m;have:=Arx.st_len d l j n;omega))
  unfold valV at hst
  go_wp2_with fail
  refine hst.mono ?_
  rintro e v6 ⟨kk,uu,rfl,hav,hb⟩
  obtain ⟨p6,q6,r6,s6,rfl,rfl⟩:=hav.form
  have ha:=alloc_far' v6 (.cells #[.int .i64 4,.bool false,.string (TI d),.slice p6 (Arx.stA d (l) i n).length q6,.slice r6 (Arx.stA d (l) i n).length s6] 24)
  have hba:=hb.trans (ha.mono hb.size)
  have HX6o:Hid (BXA (C+1) v6.heap.size d (TI d) (Arx.stA d (l) i n) (.slice p6 (Arx.stA d (l) i n).length q6) (.slice r6 (Arx.stA d (l) i n).length s6) (v6.alloc (.cells #[.int .i64 4,.bool false,.string (TI d),.slice p6 (Arx.stA d (l) i n).length q6,.slice r6 (Arx.stA d (l) i n).length s6] 24))):=Lib.hid ⟨heap_alloc_new v6 _,(hav.down (by have:=HLX5.out;omega)).far ha⟩
  have HX6a:=Lib.hid (HX5a.out.far hba)
  have HX6b:=Lib.hid (HX5b.out.far hba)
  have HX6e:=Lib.hid (HX5e.out.far hba)
  have HX6g:=Lib.hid (HX5g.out.far hba)
  have HX6f:=Lib.hid (HX5f.out.far hba)
  have HX6s:=Lib.hid (HX5s.out.far hba)
  have HX6t:=Lib.hid (HX5t.out.far hba)
  have HBX6:=Lib.hid (HBX5.out.trans (hba.mono (Nat.le_of_lt HLX5.out)))
  have HLX6:Hid (C<(v6.alloc (.cells #[.int .i64 4,.bool false,.string (TI d),.slice p6 (Arx.stA d (l) i n).length q6,.slice r6 (Arx.stA d (l) i n).length s6] 24)).heap.size):=Lib.hid (Nat.lt_of_lt_of_le HLX5.out hba.size)
  clear hst hav hb ha hba HX5a HX5b HX5e HX5g HX5f HX5s HX5t HBX5 HLX5 o0 o1 o2 o3 o4
  go_upto_region 13 with fail
  generalize hY:v6.heap.size=Yo at *
  generalize hw6:v6.alloc _=z6 at *
  clear hY hw6
  have HBe:Hid (∀W,Below z6.heap.size z6 W→BXA (C+1) Ye d (TI d) (Arx.stA d (Arx.stA d (l) i m) j n) (.slice p2 (Arx.stA d (Arx.stA d (l) i m) j n).length q2) (.slice r2 (Arx.stA d (Arx.stA d (l) i m) j n).length s2) W):=Lib.hid fun W hW=>HX6e.out.far hW
  have HBf:Hid (∀W,Below z6.heap.size z6 W→BXA (C+1) Yf d (TI d) (Arx.stA d (Arx.stA d (l) j n) i m) (.slice p4 (Arx.stA d (Arx.stA d (l) j n) i m).length q4) (.slice r4 (Arx.stA d (Arx.stA d (l) j n) i m).length s4) W):=Lib.hid fun W hW=>HX6f.out.far hW
  have HBs:Hid (∀W,Below z6.heap.size z6 W→BXA (C+1) Ys d (TI d) (Arx.stA d l i (Arx.atA d l i)) (.slice p9 (Arx.stA d l i (Arx.atA d l i)).length qq9) (.slice r9 (Arx.stA d l i (Arx.atA d l i)).length ss9) W):=Lib.hid fun W hW=>HX6s.out.far hW
  have HBa:Hid (∀W,Below z6.heap.size z6 W→BXA (C+1) A d (TI d) (l) (.slice a1 (l).length c1) (.slice a2 (l).length c2) W):=Lib.hid fun W hW=>HX6a.out.far hW
  have HBt:Hid (∀W,Below z6.heap.size z6 W→BXA (C+1) Yt d (TI d) (Arx.stA d (Arx.stA d (l) i m) i n) (.slice p5 (Arx.stA d (Arx.stA d (l) i m) i n).length q5) (.slice r5 (Arx.stA d (Arx.stA d (l) i m) i n).length s5) W):=Lib.hid fun W hW=>HX6t.out.far hW
  have HBo:Hid (∀W,Below z6.heap.size z6 W→BXA (C+1) Yo d (TI d) (Arx.stA d (l) i n) (.slice p6 (Arx.stA d (l) i n).length q6) (.slice r6 (Arx.stA d (l) i n).length s6) W):=Lib.hid fun W hW=>HX6o.out.far hW
  have HAW:=Lib.hid fun (W:World) (hW:Below z6.heap.size z6 W)=>awakeV W (HE.out.far (by rw[HCE.out];exact HBX6.out.trans (hW.mono (Nat.le_of_lt HLX6.out))))
  have HE1:=Lib.hid fun (hij:i≠j) (W:World) (hW:Below z6.heap.size z6 W)=>equalSame W (HBe.out W hW).2 (HBf.out W hW).2 (Arx.st_comm HVL.out m n hij)
  have HE2:=Lib.hid fun (W:World) (hW:Below z6.heap.size z6 W)=>equalSame W (HBs.out W hW).2 (HBa.out W hW).2 (Arx.st_same HVL.out i)
  have HE3:=Lib.hid fun (W:World) (hW:Below z6.heap.size z6 W)=>equalSame W (HBt.out W hW).2 (HBo.out W hW).2 (Arx.st_twice HVL.out i m n)
  unfold valV at HE1 HE2 HE3
  have hij0:=ti_eq i j
  have HR0:=Lib.hid (Below.refl z6.heap.size z6)
  clear HX6a HX6b HX6e HX6g HX6f HX6s HX6t HX6o
  by_cases hij:i=j
  · rw[decide_eq_true hij] at hij0
    clear hij HE1
    obtain ⟨x0,x1,x2,x3,x4⟩:=(HBs.out _ HR0.out).cells
    obtain ⟨y0,y1,y2,y3,y4⟩:=(HBa.out _ HR0.out).cells
    go_wp2_with fail
    refine (HE2.out _ HR0.out).mono ?_
    rintro e wb ⟨rfl,hb⟩
    have HRb:=Lib.hid (HR0.out.trans (hb.mono HR0.out.size))
    clear hb x0 x1 x2 x3 x4 y0 y1 y2 y3 y4
    obtain ⟨x0,x1,x2,x3,x4⟩:=(HBt.out _ HRb.out).cells
    obtain ⟨y0,y1,y2,y3,y4⟩:=(HBo.out _ HRb.out).cells
    go_wp2_with fail
    refine (HE3.out _ HRb.out).mono ?_
    rintro e wd ⟨rfl,hb⟩
    have HRd:=Lib.hid (HRb.out.trans (hb.mono HRb.out.size))
    clear hb x0 x1 x2 x3 x4 y0 y1 y2 y3 y4
    go_wp2_with fail
    refine (HAW.out _ HRd.out).mono ?_
    rintro e we ⟨rfl,hb⟩
    have HRe:=Lib.hid (HRd.out.trans (hb.mono HRd.out.size))
    clear hb
    go_wp2
    go_ret
    exact ⟨rfl,HBX6.out.trans (HRe.out.mono (Nat.le_of_lt HLX6.out))⟩
  · rw[decide_eq_false hij] at hij0
    have HE1:=Lib.hid (HE1.out hij)
    clear hij
    obtain ⟨x0,x1,x2,x3,x4⟩:=(HBe.out _ HR0.out).cells
    obtain ⟨y0,y1,y2,y3,y4⟩:=(HBf.out _ HR0.out).cells
    go_wp2_with fail
    refine (HE1.out _ HR0.out).mono ?_
    rintro e wa ⟨rfl,hb⟩
    have HR9:=Lib.hid (HR0.out.trans (hb.mono HR0.out.size))
    clear hb x0 x1 x2 x3 x4 y0 y1 y2 y3 y4
    obtain ⟨x0,x1,x2,x3,x4⟩:=(HBs.out _ HR9.out).cells
    obtain ⟨y0,y1,y2,y3,y4⟩:=(HBa.out _ HR9.out).cells
    go_wp2_with fail
    refine (HE2.out _ HR9.out).mono ?_
    rintro e wb ⟨rfl,hb⟩
    have HRb:=Lib.hid (HR9.out.trans (hb.mono HR9.out.size))
    clear hb x0 x1 x2 x3 x4 y0 y1 y2 y3 y4
    obtain ⟨x0,x1,x2,x3,x4⟩:=(HBt.out _ HRb.out).cells
    obtain ⟨y0,y1,y2,y3,y4⟩:=(HBo.out _ HRb.out).cells
    go_wp2_with fail
    refine (HE3.out _ HRb.out).mono ?_
    rintro e wd ⟨rfl,hb⟩
    have HRd:=Lib.hid (HRb.out.trans (hb.mono HRb.out.size))
    clear hb x0 x1 x2 x3 x4 y0 y1 y2 y3 y4
    go_wp2_with fail
    refine (HAW.out _ HRd.out).mono ?_
    rintro e we ⟨rfl,hb⟩
    have HRe:=Lib.hid (HRd.out.trans (hb.mono HRd.out.size))
    clear hb
    go_wp2
    go_ret
    exact ⟨rfl,HBX6.out.trans (HRe.out.mono (Nat.le_of_lt HLX6.out))⟩
end
end Go.Proofs.YtpkfnnkbfphfbaaGreatDoor.Se

import Derived.Test.YtpkfnnkbfphfbaaGreatDoorHGC
set_option maxRecDepth 100000
set_option maxHeartbeats 40000000
namespace Go.Proofs.YtpkfnnkbfphfbaaGreatDoor.Se
open Go.RowKit Nmx Go.Proofs.Tryz
theorem oN {num:ByteArray} {ks us:List ByteArray} {k u:Value} {i0:Nat} (w:World) (hk:RRow w k ks) (hu:RRow w u us) (hn:OkT num) (hs:∀t∈ks,OkT t) (hs':∀t∈us,OkT t) (hl:ks.length≤12)
    (h1:iN num=true) (h2:ks.length=us.length) (hi0:i0<ks.length) (hbad:okK num ks us i0=false) (hok:∀j,j<i0→okK num ks us j=true):
    Calls prog 26 #[bh 4 false num k u] w fun e w'=>e=.returned (.bool false)∧Below w.heap.size w w':=by
 obtain ⟨a,c,rfl,-⟩:=hk.sl;obtain ⟨a',c',rfl,-⟩:=hu.sl;have hid:=fun (W:World) (hW:Below w.heap.size w W)=>gF num W (by have:=hn.1;omega)
 rw[h1] at hid;have HII:=Lib.hid (fun (i:Nat) (hi:i<ks.length) (hi':i<us.length) (W:World) (hW:Below w.heap.size w W)=>And.intro (gF ks[i] W (by have:=(hs _ (List.getElem_mem hi)).1;omega)) (gF us[i] W (by have:=(hs' _ (List.getElem_mem hi')).1;omega)));have HCM:=Lib.hid (fun (j:Nat) (hj:j+1<ks.length) (q1:iN (ks[j]'(Nat.lt_of_succ_lt hj))=true) (q2:iN ks[j+1]=true) (W:World) (hW:Below w.heap.size w W)=>oM (r:=cI (zT (ks[j]'(Nat.lt_of_succ_lt hj))) (zT ks[j+1])) (ib q1 (hs _ (List.getElem_mem _))).2 (ib q2 (hs _ (List.getElem_mem _))).2 W  rfl);have HTI:=Lib.hid (fun (j:Nat) (hj:j<ks.length) (q1:iN ks[j]=true)=>(ib q1 (hs _ (List.getElem_mem hj))).1);have HOK:=Lib.hid hok;have HBD:=Lib.hid hbad;have HK:=Lib.hid hk;have HU:=Lib.hid hu;obtain ⟨n,hnn⟩:∃n,ks.length=n:=⟨_,rfl⟩
 have HN:=Lib.hid hnn;have HN':Hid (us.length=n):=Lib.hid (h2.symm.trans hnn);have hln:n≤12:=by omega
 have hin:i0<n:=by omega
 have hlu:us.length=n:=HN'.out;unfold bh;rw[hnn,hlu];have hX:eX w.heap.size num (.slice a n c) (.slice a' n c') (w.alloc (.cells #[.int .i64 4,.bool false,.string num,.slice a n c,.slice a' n c'] 24)):=aq w _;have HX:=Lib.hid hX;have HB:=Lib.hid (aO w (.cells #[.int .i64 4,.bool false,.string num,.slice a n c,.slice a' n c'] 24));clear hk hu hs hs' hl h1 h2 hi0 hbad hok hnn hlu hX
 go_enter func26,ntmps26
 go_wp2_with fail
 refine (hid _ HB.out).mono ?_;rintro e w1 ⟨rfl,hb⟩;have HX1:=Lib.hid ((hb.block _ (ar HX.out)).trans HX.out);replace HB:=Lib.hid (HB.out.trans (hb.mono HB.out.size));have x3:=aa HX1.out 3;have x4:=aa HX1.out 4;have x0:=aa HX1.out 0;clear hb hid HX
 go_wp2_with fail
 go_loopg [3] n (fun gh v wr=>∃(i:Nat),gh=n-i∧i≤i0∧v=.int .i64 i∧eX w.heap.size num (.slice a n c) (.slice a' n c') wr∧Below w.heap.size w wr)
 case atStart=>exact ⟨0,rfl,aM _,rfl,HX1.out,HB.out⟩
 case round=>
  obtain ⟨i,rfl,hi,rfl,hX,hb⟩:=hrel;clear x0 x3 x4 HX1 HB;have HX:=Lib.hid hX;have HB:=Lib.hid hb;clear hX hb;have hi0:(0:Int)≤(i:Int):=by omega
  have y3:=aa HX.out 3;have hlt:i<n:=by omega
  have hlt':(i:Int)<(n:Int):=by omega
  have hl1:i<ks.length:=by rw[HN.out];exact hlt
  have hl2:i<us.length:=by rw[HN'.out];exact hlt
  obtain ⟨g,o,cc,e1,hk⟩:=(HK.out.far HB.out).cell (ay hl1);obtain ⟨g',o',cc',e2,hu⟩:=(HU.out.far HB.out).cell (ay hl2);rw[HN.out] at e1;rw[HN'.out] at e2;injection e1 with e1 _ e1c;injection e2 with e2 _ e2c;subst e1 e2 e1c e2c;have hik:=fun W hW=>(HII.out i hl1 hl2 W hW).1
  have hiv:=fun W hW=>(HII.out i hl1 hl2 W hW).2
  have hpk:=gi (num:=num) hl1 hl2;obtain ⟨tk,htk⟩:∃t,ks[i]=t:=⟨_,rfl⟩
  obtain ⟨tv,htv⟩:∃t,us[i]=t:=⟨_,rfl⟩
  rw[htk] at hk hik hpk;rw[htv] at hu hiv hpk;obtain ⟨bk,hbk⟩:∃b,iN tk=b:=⟨_,rfl⟩
  obtain ⟨bv,hbv⟩:∃b,iN tv=b:=⟨_,rfl⟩
  obtain ⟨bn,hne⟩:∃b,(tv.toList==num.toList)=b:=⟨_,rfl⟩
  rw[hbk] at hik;rw[hbv] at hiv;rw[hbk,hbv,hne] at hpk;have HPK:=Lib.hid hpk;have HBK:=Lib.hid hbk;have HTK:=Lib.hid htk;have C0:Hid (∀W,Below wr.heap.size wr W→W.cell? ⟨g,o+i,none⟩=some (.string tk)∧W.cell? ⟨g',o'+i,none⟩=some (.string tv)):=Lib.hid fun W hW=>⟨(hW.cell (World.block_lt_of_cell? _ _ hk)).trans hk,(hW.cell (World.block_lt_of_cell? _ _ hu)).trans hu⟩
  have C1:Hid (∀W,Below wr.heap.size wr W→eX w.heap.size num (.slice (some ⟨g,o,none⟩) n c) (.slice (some ⟨g',o',none⟩) n c') W):=Lib.hid fun W hW=>(hW.block _ (ar HX.out)).trans HX.out
  have HIK:=Lib.hid (fun W (hW:Below wr.heap.size wr W)=>hik W (HB.out.trans (hW.mono HB.out.size)));have HIV:=Lib.hid (fun W (hW:Below wr.heap.size wr W)=>hiv W (HB.out.trans (hW.mono HB.out.size)));clear hbv hpk hbk htv htk hik hiv hu
  go_wp2_with fail
  by_cases hk0:i=0
  · subst hk0
    by_cases hib:0=i0
    · have hbd:=HBD.out;rw[←hib,HPK.out] at hbd
      have hcs:bk=false∨(bk=true∧bv=false)∨(bk=true∧bv=true∧bn=true):=by
       revert hbd;cases bk <;> cases bv <;> cases bn <;> simp
      clear hbd hib;rcases hcs with rfl | ⟨rfl,rfl⟩ | ⟨rfl,rfl,rfl⟩
      all_goals
       refine cU (fun W=>Below wr.heap.size wr W) (by kernel_rfl) (by kernel_rfl) (am _ _).drew ?_
       repeat (first
        | (refine d9 ?_ ?_
           · first | (go_simp;done) | (rfl;done)
           simp only[Act.put,ac,ag,ah])
        | (refine dT (v:= ?_) ?_ ?_ ?_
           rotate_left
           · (go_simp;done)
           · intro W hW;obtain ⟨z0,z1⟩:=C0.out W hW;have z2:=aa (C1.out W hW) 2;have z3:=aa (C1.out W hW) 3;have z4:=aa (C1.out W hW) 4;simp only[Nat.add_zero] at z0 z1
             go_simp
             first
             | with_reducible rfl
             | (go_at_call 43;(first | with_reducible refine (HIK.out W hW).mono ?_ | with_reducible refine (HIV.out W hW).mono ?_);rintro e u ⟨rfl,hb⟩;refine ⟨?_,hW.trans (hb.mono hW.size)⟩;with_reducible rfl)
           simp only[Act.put,ac,ag,ah]))
       refine fu ?_;intro w2 hw2;have HX2:=Lib.hid (C1.out w2 hw2);have HB2:=Lib.hid (HB.out.trans (hw2.mono HB.out.size));clear hw2
       go_wp2
       go_ret
       exact ⟨rfl,HB2.out⟩
    · have hg:=HOK.out 0 (by omega);rw[HPK.out] at hg
      have hcs:bk=true∧bv=true∧bn=false:=by
       revert hg;cases bk <;> cases bv <;> cases bn <;> simp
      obtain ⟨rfl,rfl,rfl⟩:=hcs;clear hg;refine cU (fun W=>Below wr.heap.size wr W) (by kernel_rfl) (by kernel_rfl) (am _ _).drew ?_
      repeat (first
       | (refine d9 ?_ ?_
          · first | (go_simp;done) | (rfl;done)
          simp only[Act.put,ac,ag,ah])
       | (refine dT (v:= ?_) ?_ ?_ ?_
          rotate_left
          · (go_simp;done)
          · intro W hW;obtain ⟨z0,z1⟩:=C0.out W hW;have z2:=aa (C1.out W hW) 2;have z3:=aa (C1.out W hW) 3;have z4:=aa (C1.out W hW) 4;simp only[Nat.add_zero] at z0 z1
            go_simp
            first
            | with_reducible rfl
            | (go_at_call 43;(first | with_reducible refine (HIK.out W hW).mono ?_ | with_reducible refine (HIV.out W hW).mono ?_);rintro e u ⟨rfl,hb⟩;refine ⟨?_,hW.trans (hb.mono hW.size)⟩;with_reducible rfl)
          simp only[Act.put,ac,ag,ah]))
      refine fu ?_;intro w2 hw2;have HX2:=Lib.hid (C1.out w2 hw2);have HB2:=Lib.hid (HB.out.trans (hw2.mono HB.out.size));clear hw2
      go_wp2
      go_roundg (n-(0+1))
      case rel=>exact ⟨0+1,rfl,by omega,by go_num,HX2.out,HB2.out⟩
      case measure=>omega
  · obtain ⟨j,hjk⟩:∃j,i=j+1:=⟨i-1,by omega⟩
    have hjl:j<ks.length:=by omega
    have hjl1:j+1<ks.length:=by omega
    have htk1:ks[j+1]=tk:=by have:=HTK.out;subst hjk;exact this
    have hgj:=HOK.out j (by omega);rw[gi hjl (by omega)] at hgj
    have hkj:iN ks[j]=true:=by
     revert hgj;cases iN ks[j] <;> simp
    have hcm:=fun (q:bk=true)=>HCM.out j hjl1 hkj (by rw[htk1];exact HBK.out.trans q)
    have hti1:=HTI.out j hjl hkj;have hti2:=fun (q:bk=true)=>HTI.out (j+1) hjl1 (by rw[htk1];exact HBK.out.trans q)
    rw[htk1] at hcm hti2;obtain ⟨tp,htp⟩:∃t,ks[j]=t:=⟨_,rfl⟩
    rw[htp] at hcm hti1;obtain ⟨r,hr⟩:∃r,cI (zT tp) (zT tk)=r:=⟨_,rfl⟩
    have HRS:Hid ((decide (zT tp<zT tk)=true∧r= -1)∨(decide (zT tp<zT tk)=false∧(r=0∨r=1))):=Lib.hid (by
     unfold cI at hr
     by_cases hlt2:zT tp<zT tk
     · rw[aF hlt2] at hr;exact .inl ⟨aH hlt2,hr.symm⟩
     · rw[aB hlt2] at hr;refine .inr ⟨aD hlt2,?_⟩
       split at hr <;> omega)
    have hpk:=HPK.out;rw[show (i==0)=false from beq_false_of_ne hk0,Bool.false_or,show i-1=j by omega,aA,ay hjl,Option.getD_some,htp] at hpk;have HPK2:=Lib.hid hpk;obtain ⟨g0,o0,cc0,e1,hkp⟩:=(HK.out.far HB.out).cell (ay hjl);rw[HN.out] at e1;injection e1 with e1 _ e1c;injection (aI e1) with e1 e1o _;subst e1 e1o e1c;rw[htp] at hkp;rw[hr,hti1] at hcm;have C2:Hid (∀W,Below wr.heap.size wr W→W.cell? ⟨g,o+j,none⟩=some (.string tp)):=Lib.hid fun W hW=>(hW.cell (World.block_lt_of_cell? _ _ hkp)).trans hkp
    have HCC:Hid (∀(q:bk=true) W (hW:Below wr.heap.size wr W),Calls prog 44 #[.string tp,.string tk] W fun e w'=>e=.returned (.int .i64 r)∧Below W.heap.size W w'):=Lib.hid fun q W hW=>by
     have:=hcm q W (HB.out.trans (hW.mono HB.out.size));rwa [hti2 q] at this
    have HBD2:Hid (i=i0→(bk && decide (zT tp<zT tk) && bv && !bn)=false):=Lib.hid fun e=>by
     have hbd:=HBD.out;rw[←e,HPK2.out] at hbd;exact hbd
    have HGD2:Hid (i<i0→(bk && decide (zT tp<zT tk) && bv && !bn)=true):=Lib.hid fun e=>by
     have hg:=HOK.out i e;rw[HPK2.out] at hg;exact hg
    have d1:decide ((0:Int)<(i:Int))=true:=aH (by omega);have d0:(0:Int)<(i:Int):=by omega
    have d2:0<i:=by omega
    have d3:decide (0<i)=true:=aH d2;have hw1:IntKind.i64.wrap ((i:Int)-1)=(j:Int):=by rw[IntKind.wrap_i64];omega
    have e3:(0:Int)≤(j:Int):=by omega
    have e4:(j:Int)<(n:Int):=by omega
    clear hcm hti1 hti2 hr hkp hkj hgj hpk hjl1 htk1 htp hjk hk0 HPK2 HPK HBK HTK hl1 hl2 hjl hk
    by_cases hib:i=i0
    · have hbd:=HBD2.out hib
      have hcs:bk=false∨(bk=true∧bv=false)∨(bk=true∧bv=true∧bn=true)∨(bk=true∧bv=true∧bn=false∧r=0)∨(bk=true∧bv=true∧bn=false∧r=1):=by
       rcases HRS.out with ⟨q,h⟩ | ⟨q,h⟩
       · rw[q] at hbd
         revert hbd;cases bk <;> cases bv <;> cases bn <;> simp[h]
       · rcases h with h | h <;> cases bk <;> cases bv <;> cases bn <;> simp[h]
      clear hbd hib;rcases hcs with rfl | ⟨rfl,rfl⟩ | ⟨rfl,rfl,rfl⟩ | ⟨rfl,rfl,rfl,rfl⟩ | ⟨rfl,rfl,rfl,rfl⟩
      all_goals
       refine cU (fun W=>Below wr.heap.size wr W) (by kernel_rfl) (by kernel_rfl) (am _ _).drew ?_
       repeat (first
        | (refine d9 ?_ ?_
           · first | (go_simp;done) | (rfl;done)
           simp only[Act.put,ac,ag,ah])
        | (refine dT (v:= ?_) ?_ ?_ ?_
           rotate_left
           · (go_simp;done)
           · intro W hW;obtain ⟨z0,z1⟩:=C0.out W hW;have z2:=aa (C1.out W hW) 2;have z3:=aa (C1.out W hW) 3;have z4:=aa (C1.out W hW) 4;have z5:=C2.out W hW
             go_simp
             first
             | with_reducible rfl
             | (go_at_call 43;(first | with_reducible refine (HIK.out W hW).mono ?_ | with_reducible refine (HIV.out W hW).mono ?_);rintro e u ⟨rfl,hb⟩;refine ⟨?_,hW.trans (hb.mono hW.size)⟩;with_reducible rfl)
             | (go_at_call 44;with_reducible refine (HCC.out (by first | rfl | assumption) W hW).mono ?_;rintro e u ⟨rfl,hb⟩;refine ⟨?_,hW.trans (hb.mono hW.size)⟩;with_reducible rfl)
           simp only[Act.put,ac,ag,ah]))
       refine fu ?_;intro w2 hw2;have HX2:=Lib.hid (C1.out w2 hw2);have HB2:=Lib.hid (HB.out.trans (hw2.mono HB.out.size));clear hw2
       go_wp2
       go_ret
       exact ⟨rfl,HB2.out⟩
    · have hg:=HGD2.out (by omega)
      have hcs:bk=true∧r= -1∧bv=true∧bn=false:=by
       rcases HRS.out with ⟨q,h⟩ | ⟨q,h⟩
       · rw[q] at hg
         revert hg;cases bk <;> cases bv <;> cases bn <;> simp[h]
       · rw[q] at hg
         revert hg;cases bk <;> simp
      obtain ⟨rfl,rfl,rfl,rfl⟩:=hcs;clear hg;refine cU (fun W=>Below wr.heap.size wr W) (by kernel_rfl) (by kernel_rfl) (am _ _).drew ?_
      repeat (first
       | (refine d9 ?_ ?_
          · first | (go_simp;done) | (rfl;done)
          simp only[Act.put,ac,ag,ah])
       | (refine dT (v:= ?_) ?_ ?_ ?_
          rotate_left
          · (go_simp;done)
          · intro W hW;obtain ⟨z0,z1⟩:=C0.out W hW;have z2:=aa (C1.out W hW) 2;have z3:=aa (C1.out W hW) 3;have z4:=aa (C1.out W hW) 4;have z5:=C2.out W hW
            go_simp
            first
            | with_reducible rfl
            | (go_at_call 43;(first | with_reducible refine (HIK.out W hW).mono ?_ | with_reducible refine (HIV.out W hW).mono ?_);rintro e u ⟨rfl,hb⟩;refine ⟨?_,hW.trans (hb.mono hW.size)⟩;with_reducible rfl)
            | (go_at_call 44;with_reducible refine (HCC.out (by first | rfl | assumption) W hW).mono ?_;rintro e u ⟨rfl,hb⟩;refine ⟨?_,hW.trans (hb.mono hW.size)⟩;with_reducible rfl)
          simp only[Act.put,ac,ag,ah]))
      refine fu ?_;intro w2 hw2;have HX2:=Lib.hid (C1.out w2 hw2);have HB2:=Lib.hid (HB.out.trans (hw2.mono HB.out.size));clear hw2
      go_wp2
      go_roundg (n-(i+1))
      case rel=>exact ⟨i+1,rfl,by omega,by go_num,HX2.out,HB2.out⟩
      case measure=>omega
end Go.Proofs.YtpkfnnkbfphfbaaGreatDoor.Se

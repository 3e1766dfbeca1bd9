import Derived.Test.YtpkfnnkbfphfbaaGreatDoorHEK
set_option maxRecDepth 100000
set_option maxHeartbeats 40000000
open Go.Lib (hid)
namespace Go.Proofs.YtpkfnnkbfphfbaaGreatDoor.Se
open Go.RowKit Nmx Go.Proofs.Tryz
def OutA (O:Nat) (w0:World) (td:ByteArray) (acc:Arx.L) (W:World):Prop:=
 Below O w0 W∧∃k u,W.heap[O]? =some (.cells #[.int .i64 4,.bool false,.string td,k,u] 24 (0,0))∧SRow (O+1) W k (kT acc)∧SRow (O+1) W u (vT acc)∧∀g,k.ownBlock=some g→u.ownBlock≠some g
theorem OutA.far {O:Nat} {w0:World} {td:ByteArray} {acc:Arx.L} {W W':World} (h:OutA O w0 td acc W) (hb:Below W.heap.size W W'):OutA O w0 td acc W':=by
 obtain ⟨h1,k,u,h2,h3,h4,h5⟩:=h;exact ⟨h1.trans (hb.mono (aL (ar h2))),k,u,(hb.block _ (ar h2)).trans h2,h3.far hb,h4.far hb,h5⟩
theorem OutA.rj {O:Nat} {w0:World} {td tk tv:ByteArray} {acc:Arx.L} {ko uo:Value} {W:World} {x3 x4 x8 x9:Value} (h1:Below O w0 W) (h2:W.heap[O]? =some (.cells #[.int .i64 4,.bool false,.string td,ko,uo] 24 (0,0))) (h3:SRow (O+1) W ko (kT acc)) (h4:SRow (O+1) W uo (vT acc)) (h5:∀g,ko.ownBlock=some g→uo.ownBlock≠some g):
    RJ O w0 td ko uo (kT acc) (vT acc) tk tv false false false false false false x3 x4 x8 x9 W:=
 ⟨h1,h2,h3,h4,h5,(fun e=>by cases e),(fun e=>by cases e)⟩
theorem RJ.out {O:Nat} {w0:World} {td:ByteArray} {acc:Arx.L} {ko uo:Value} {W:World} {x3 x4 x8 x9:Value} {a b:Int} (h:RJ O w0 td ko uo (kT acc) (vT acc) (TI a) (TI b) true true true true true true x3 x4 x8 x9 W):OutA O w0 td (acc++[(a,b)]) W:=
 ⟨h.bel,x4,x9,h.box,by have:=h.kr;simpa [kT] using this,by have:=h.ur;simpa [vT] using this,h.ne⟩
theorem yM (d x v:Int) (pu:Bool) (l:Arx.L) (i:Nat) (h:i<l.length) (acc st:Arx.L) (q:Bool) (hq:(!pu && decide (x≤l[i].1))=q) (hac:acc++Arx.rsA d x v pu (l.drop i)=st):
    ((acc++if q=true then (if v=d then [] else [(x,v)]) else [])++if l[i].1=x then [] else [l[i]])++Arx.rsA d x v (pu || q) (l.drop (i+1))=st:=by
 rw[List.drop_eq_getElem_cons h,Arx.rsA] at hac;subst hq;rw[←hac];cases pu <;> simp
theorem AA (d x v:Int) (pu:Bool) (l:Arx.L) (i:Nat) (h:l.length=i) (acc st:Arx.L) (q:Bool) (hq:(!pu && true)=q) (hac:acc++Arx.rsA d x v pu (l.drop i)=st):
    (acc++if q=true then (if v=d then [] else [(x,v)]) else [])=st:=by
 rw[List.drop_of_length_le (by omega),Arx.rsA] at hac;subst hq;rw[←hac];cases pu <;> simp
theorem Ba (a x:Int):(0≤cI a x) ↔ x≤a:=by
 unfold cI
 split
 · omega
 · split <;> omega
theorem qn {d x v:Int} {l:Arx.L} {k u:Value} (w:World) (h:AR w d l k u) (hx:Sm x) (hv:Sm v) (hl:l.length<500):
    Calls prog 19 #[bh 4 false (TI d) k u,.string (TI x),.string (TI v)] w fun e w'=>∃k' u',e=.returned (.tuple #[bh 4 false (TI d) k' u',.int .i64 0])∧AV w.heap.size w' d (Arx.stA d l x v) k' u'∧Below w.heap.size w w':=by
 obtain ⟨i0,hi,hz0,hz1,hz2⟩:=info_parts wy;have hA:=aO w (.cells #[.int .i64 4,.bool false,.string (TI d),k,u] 24);have hA2:=aO (w.alloc (.cells #[.int .i64 4,.bool false,.string (TI d),k,u] 24)) (.cells #[.int .i64 0,.bool false,.string ⟨#[]⟩,.slice none 0 0,.slice none 0 0] 24);have b1:=(hA2.block _ (ar (aq w (.cells #[.int .i64 4,.bool false,.string (TI d),k,u] 24)))).trans (aq w (.cells #[.int .i64 4,.bool false,.string (TI d),k,u] 24));have b2:=aq (w.alloc (.cells #[.int .i64 4,.bool false,.string (TI d),k,u] 24)) (.cells #[.int .i64 0,.bool false,.string ⟨#[]⟩,.slice none 0 0,.slice none 0 0] 24);rw[show (w.alloc (.cells #[.int .i64 4,.bool false,.string (TI d),k,u] 24)).heap.size=w.heap.size+1 by simp] at b2;have hB:=hA.trans (hA2.mono hA.size);have HVA:=hid fun (W:World) (hW:Below w.heap.size w W)=>ij W (h.far hW)
 have HIX:=hid fun (W:World)=>fZ hx W
 have HIV:=hid fun (W:World)=>fZ hv W
 have HCM:=hid (fun (i:Nat) (hi:i<l.length) (W:World)=>oM (r:=cI l[i].1 x) (h.sl _ (List.getElem_mem hi)).1 hx W rfl);have HNK:=hid (fun (i:Nat) (hi:i<l.length)=>lW l[i].1 x);have hvd:=lW v d;have HAV:=hid h;have HSX:=hid (And.intro hx hv);have HB:=hid hB;have HX1:=hid b1;have HX2:=hid b2;obtain ⟨ak,ck,au,cu,rfl,rfl⟩:=h.form;obtain ⟨n,hn⟩:∃n,l.length=n:=⟨_,rfl⟩
 have HN:=hid hn;rw[hn] at hl;unfold bh at HVA ⊢;rw[hn] at HVA HX1 HX2 HB ⊢;obtain ⟨td,htd⟩:∃t,TI d=t:=⟨_,rfl⟩
 obtain ⟨tx,htx⟩:∃t,TI x=t:=⟨_,rfl⟩
 obtain ⟨tv,htv⟩:∃t,TI v=t:=⟨_,rfl⟩
 have HTD:=hid htd;have HTX:=hid htx;have HTV:=hid htv;simp only[htd] at HVA HX1 HX2 HB hvd ⊢;simp only[htx] at HIX HCM HNK ⊢;simp only[htv] at HIV hvd ⊢;clear hA hA2 b1 b2 hB h htd htx htv hn hx hv
 go_enter func19,ntmps19
 go_wp2_with fail
 generalize hw1:World.alloc (World.alloc _ _) _=w1 at *;refine (HVA.out _ HB.out).mono ?_;rintro e w2 ⟨rfl,hb⟩;have HX3:=hid ((hb.block _ (ar HX1.out)).trans HX1.out);have HX4:=hid ((hb.block _ (ar HX2.out)).trans HX2.out);have HB2:=hid (HB.out.trans (hb.mono HB.out.size));clear hb HX1 HX2 HB hw1 HVA
 go_wp2_with fail
 refine (HIX.out _).mono ?_;rintro e w3 ⟨rfl,hb⟩;have HX5:=hid ((hb.block _ (ar HX3.out)).trans HX3.out);have HX6:=hid ((hb.block _ (ar HX4.out)).trans HX4.out);have HB3:=hid (HB2.out.trans (hb.mono HB2.out.size));clear hb HX3 HX4 HB2 HIX
 go_wp2_with fail
 refine (HIV.out _).mono ?_;rintro e w4 ⟨rfl,hb⟩;have HX7:=hid ((hb.block _ (ar HX5.out)).trans HX5.out);have HX8:=hid ((hb.block _ (ar HX6.out)).trans HX6.out);have HB4:=hid (HB3.out.trans (hb.mono HB3.out.size));clear hb HX5 HX6 HB3 HIV;have y0:=aa HX7.out 0;have y2:=aa HX7.out 2;have ha:=aO w4 (.cells #[.int .i64 4,.bool false,.string td,.slice none 0 0,.slice none 0 0] 24);have hx8:=aq w4 (.cells #[.int .i64 4,.bool false,.string td,.slice none 0 0,.slice none 0 0] 24);have HOUT:Hid (OutA w4.heap.size w4 td [] (w4.alloc (.cells #[.int .i64 4,.bool false,.string td,.slice none 0 0,.slice none 0 0] 24))):=hid ⟨ha,_,_,hx8,World.ownsRow_nil _ _ _ _,World.ownsRow_nil _ _ _ _,fun g e=>by cases e⟩;have HLT:Hid (w.heap.size+1<w4.heap.size):=hid (ar HX8.out)
 go_upto_region 4 with fail
 clear y0 y2 ha hx8;generalize hw5:w4.alloc _=w5 at *;generalize hO:w4.heap.size=O at *;have HO:=hid hO;clear hw5 hO
 go_wp2_with fail
 go_loopw [9,10] (fun v9 v10 wr=>∃(i:Nat) (pu:Bool) (acc:Arx.L),i≤n+1∧v10=.int .i64 (i:Nat)∧v9=.bool pu∧(i≤n→acc++Arx.rsA d x v pu (l.drop i)=Arx.stA d l x v)∧(i=n+1→acc=Arx.stA d l x v)∧acc.length≤2*i∧OutA O w4 td acc wr) (fun _ v _=>n+1-(intOf v).toNat)
 case atStart=>exact ⟨0,false,[],aM _,rfl,rfl,fun _=>Arx.rs_st HAV.out.vd,fun e=>by omega,aM _,HOUT.out⟩
 case round=>
  obtain ⟨i,pu,acc,hin,rfl,rfl,hac,hfin,hal,hout⟩:=hrel;have hX:=(hout.1.block _ (by have:=HLT.out;have:=HO.out;omega)).trans HX7.out;have y3:=aa hX 3
  by_cases hle:i≤n
  · have hle':(i:Int)≤(n:Int):=by omega
    have HAC:=hid (hac hle);have HOUT2:=hid hout;have hbw:Below O w4 wr:=hout.1;have HAL:=hid hal;have y2:=aa hX 2;have y4:=aa hX 4;clear hac hfin hout hal
    go_upto_region 8 with fail
    have HIL:Hid (i<n→i<l.length):=hid fun h=>by rw[HN.out];exact h
    obtain ⟨q,hq⟩:∃q:Bool,(!pu && (match l[i]? with | none=>true | some p=>decide (x≤p.1)))=q:=⟨_,rfl⟩
    have HQ:=hid hq;clear hq
    go_cut [60] from 42 to 61 (fun c wx=>c=.bool q∧OutA O w4 td acc wx)
    case first=>
     cases pu with
     | true=>
       go_wp2_with fail
       go_meet
       case rel=>exact ⟨by rw[←HQ.out];rfl,HOUT2.out⟩
     | false=>
       by_cases hen:i=n
       · subst hen;have hno:l[i]? =none:=List.getElem?_eq_none (by rw[HN.out];exact aj _);have hq:q=true:=by rw[←HQ.out,hno];rfl
         clear hno
         go_wp2_with fail
         go_meet
         case rel=>exact ⟨by rw[hq],HOUT2.out⟩
       · have hlt:i<n:=by omega
         have hlt':(i:Int)<(n:Int):=by omega
         have hne:¬(i:Int)=(n:Int):=by omega
         have hil:=HIL.out hlt;obtain ⟨g1,o1,c9,g2,o2,c8,e1,e2,hk,-⟩:=(HAV.out.far (HB4.out.trans (hbw.mono (by have:=HLT.out;omega)))).cell hil;rw[HN.out] at e1;obtain ⟨rfl,-,rfl⟩:=Value.slice.inj e1;have hcm:=HCM.out i hil;have hq:q=decide (x≤l[i].1):=by rw[←HQ.out,ay hil];rfl
         obtain ⟨tk,htk⟩:∃t,TI l[i].1=t:=⟨_,rfl⟩
         rw[htk] at hk hcm;clear e1 e2 htk;have hcq:=Ba l[i].1 x;generalize cI l[i].1 x=cc at *
         go_wp2_with fail
         refine (hcm wr).mono ?_;rintro e w6 ⟨rfl,hb⟩;have HO6:=hid (HOUT2.out.far hb);clear hb hk hcm
         go_wp2_with fail
         go_meet
         case rel=>exact ⟨by rw[hq];simp;intro h;omega,HO6.out⟩
    case rest=>
     obtain ⟨rfl,hout⟩:=hcut;clear y2 y3 y4 hbw hX;have hX:=(hout.1.block _ (by have:=HLT.out;have:=HO.out;omega)).trans HX7.out;have y2:=aa hX 2;have HOUT3:=hid hout;clear hX hout HOUT2
     go_upto_if 60 with fail
     go_cut [9] from 61 to 77 (fun c wx=>∃(acc':Arx.L),c=.bool (pu || q)∧acc'=acc++(if q=true then (if v=d then [] else [(x,v)]) else [])∧OutA O w4 td acc' wx)
     case first=>
      cases q with
      | false=>
        go_wp2_with fail
        go_meet
        case rel=>exact ⟨acc,by simp,by simp,HOUT3.out⟩
      | true=>
        by_cases hvd0:v=d
        · rw[aH hvd0] at hvd;have HV:=hid hvd0;clear hvd0
          go_wp2_with fail
          go_meet
          case rel=>exact ⟨acc,by simp,by simp[HV.out],HOUT3.out⟩
        · rw[aD hvd0] at hvd;have HV:Hid (¬v=d):=hid hvd0;obtain ⟨hbel,ko,uo,hbx,hkr,hur,hnn⟩:=HOUT3.out;have HRJ:=hid fun (x3 x4 x8 x9:Value)=>OutA.rj (tk:=tx) (tv:=tv) (x3:=x3) (x4:=x4) (x8:=x8) (x9:=x9) hbel hbx hkr hur hnn
          have HLA:Hid (acc.length≤5000):=hid (by have:=HAL.out;omega);obtain ⟨a1,m1,c1,rfl⟩:=hkr.sl3;obtain ⟨a2,m2,c2,rfl⟩:=hur.sl3;clear hvd0 hbel hbx hkr hur hnn
          go_upto_region 11 with fail
          clear y2 hvd;refine cE [[],[0],[],[2],[0,1,2,3],[],[5],[],[7],[0,1,2,3,4,5,6,7,8],[0,1,2,3,4,5,6],[0,1,2,3,4,5,6,7,8,9,10],[0,1,2,3,4,5,6,7,8,9,10,11],[0,1,2,3,4,5,6,7,8,9,10,11,12]] (fun y L W=>RJ O w4 td (.slice a1 m1 c1) (.slice a2 m2 c2) (kT acc) (vT acc) tx tv (L 3) (L 4) (L 8) (L 9) (L 11) (L 13) (y 3) (y 4) (y 8) (y 9) W) ?_;apply bf
          · intro y;go_simp;done
          · intro y L W R hJ h1 h2 h3 hR;unfold aR
            go_simp
            simp only[aJ];exact hR _ hJ
          simp only[Act.put,ac,ag,ah];apply bf
          · intro y;go_simp;done
          · intro y L W R hJ h1 h2 h3 hR;have q11:L 11=false:=h3 11 (show (1:Nat)∈([0,1,2,3,4,5,6,7,8,9,10]:List Nat) by decide);have hbx:=hJ.box;rw[q11] at hbx;have z3:W.cell? ⟨O,3,none⟩=some (.slice a1 m1 c1):=aa hbx 3;clear hbx;unfold aR
            go_simp
            simp only[aJ];exact hR _ hJ
          simp only[Act.put,ac,ag,ah];apply bf
          · intro y;go_simp;done
          · intro y L W R hJ h1 h2 h3 hR;unfold aR
            go_simp
            simp only[aJ];exact hR _ hJ
          simp only[Act.put,ac,ag,ah];apply bI
          · intro y;go_simp;done
          · intro y L W R hJ h1 h2 h3 hR;have hB:=hid (RJ.build3 hJ);clear hJ;unfold aR
            go_simp
            simp only[aJ];exact hR _ _ hB.out
          simp only[Act.put,ac,ag,ah,aw,aN,Nat.zero_add,Nat.reduceAdd];apply bI
          · intro y;go_simp;done
          · intro y L W R hJ h1 h2 h3 hR;have q1:L 3=true:=h1 3 (show (3:Nat)∈([0,1,2,3]:List Nat) by decide);have q2:L 4=false:=h2;have q3:L 11=false:=h3 11 (show (4:Nat)∈([0,1,2,3,4,5,6,7,8,9,10]:List Nat) by decide);have hJ':=hJ;rw[q2,q3] at hJ';obtain ⟨g0,e1,e2,-⟩:=hJ'.s3 q1 rfl;rw[e1];have hown:=hJ'.kr;have hlo:=hJ'.lt;refine dR (.tmp 66) (.tmp 68) 22 rfl (O+1) 9 i0 _ 1 16 underlying22 hi hz0 hz1 hz2 rfl (by decide) (.slice a1 m1 c1) (kT acc).length ((kT acc).map Value.string) rfl hown ⟨g0,0,none⟩ 1 1 [.string tx] rfl rfl (World.news_of_block (cs:=#[.string tx]) (t:=9) (fr:=(0,0)) e2) (by simp[Value.oneCell']) (by have:=HLA.out;simp[kT];unfold maxLen;omega) (by have:=HLA.out;simp[kT];omega) (by omega) ?_;intro v' w' hown' hgr hat
            exact hR _ _ (by
             have hq:=hJ'.app4 hown' hgr hat;rw[←q3] at hq
             exact hq)
          simp only[Act.put,ac,ag,ah,aw,aN,Nat.zero_add,Nat.reduceAdd];apply bf
          · intro y;go_simp;done
          · intro y L W R hJ h1 h2 h3 hR;unfold aR
            go_simp
            simp only[aJ];exact hR _ hJ
          simp only[Act.put,ac,ag,ah];apply bf
          · intro y;go_simp;done
          · intro y L W R hJ h1 h2 h3 hR;have q13:L 13=false:=h3 13 (show (6:Nat)∈([0,1,2,3,4,5,6,7,8,9,10,11,12]:List Nat) by decide);have hbx:=hJ.box;rw[q13] at hbx;have z4:W.cell? ⟨O,4,none⟩=some (.slice a2 m2 c2):=aa hbx 4;clear hbx;unfold aR
            go_simp
            simp only[aJ];exact hR _ hJ
          simp only[Act.put,ac,ag,ah];apply bf
          · intro y;go_simp;done
          · intro y L W R hJ h1 h2 h3 hR;unfold aR
            go_simp
            simp only[aJ];exact hR _ hJ
          simp only[Act.put,ac,ag,ah];apply bI
          · intro y;go_simp;done
          · intro y L W R hJ h1 h2 h3 hR;have hB:=hid (RJ.build8 hJ);clear hJ;unfold aR
            go_simp
            simp only[aJ];exact hR _ _ hB.out
          simp only[Act.put,ac,ag,ah,aw,aN,Nat.zero_add,Nat.reduceAdd];apply bI
          · intro y;go_simp;done
          · intro y L W R hJ h1 h2 h3 hR;have q1:L 8=true:=h1 8 (show (8:Nat)∈([0,1,2,3,4,5,6,7,8]:List Nat) by decide);have q2:L 9=false:=h2;have q3:L 13=false:=h3 13 (show (9:Nat)∈([0,1,2,3,4,5,6,7,8,9,10,11,12]:List Nat) by decide);have hJ':=hJ;rw[q2,q3] at hJ';obtain ⟨g0,e1,e2,-⟩:=hJ'.s8 q1 rfl;rw[e1];have hown:=hJ'.ur;have hlo:=hJ'.lt;refine dR (.tmp 71) (.tmp 73) 22 rfl (O+1) 9 i0 _ 1 16 underlying22 hi hz0 hz1 hz2 rfl (by decide) (.slice a2 m2 c2) (vT acc).length ((vT acc).map Value.string) rfl hown ⟨g0,0,none⟩ 1 1 [.string tv] rfl rfl (World.news_of_block (cs:=#[.string tv]) (t:=9) (fr:=(0,0)) e2) (by simp[Value.oneCell']) (by have:=HLA.out;simp[vT];unfold maxLen;omega) (by have:=HLA.out;simp[vT];omega) (by omega) ?_;intro v' w' hown' hgr hat
            exact hR _ _ (by
             have hq:=hJ'.app9 hown' hgr hat;rw[←q3] at hq
             exact hq)
          simp only[Act.put,ac,ag,ah,aw,aN,Nat.zero_add,Nat.reduceAdd];apply bf
          · intro y;go_simp;done
          · intro y L W R hJ h1 h2 h3 hR;unfold aR
            go_simp
            simp only[aJ];exact hR _ hJ
          simp only[Act.put,ac,ag,ah];apply bI
          · intro y;go_simp;done
          · intro y L W R hJ h1 h2 h3 hR;have q1:L 4=true:=h1 4 (show (4:Nat)∈([0,1,2,3,4,5,6,7,8,9,10]:List Nat) by decide);have hJ':=hJ;rw[q1] at hJ';have hbx:=hJ'.box;have z:=aa hbx 3;have zf:=aK hbx 3;obtain ⟨c1,c2,c3,c4⟩:∃a n c,y 4=.slice a n c:=(hJ'.kr).sl3;have HQ:=hid (RJ.store3 c4 hJ);clear hJ hJ' hbx;rw[c4];unfold aR
            go_simp
            simp only[aJ];exact hR _ _ HQ.out
          simp only[Act.put];apply bf
          · intro y;go_simp;done
          · intro y L W R hJ h1 h2 h3 hR;unfold aR
            go_simp
            simp only[aJ];exact hR _ hJ
          simp only[Act.put,ac,ag,ah];apply bI
          · intro y;go_simp;done
          · intro y L W R hJ h1 h2 h3 hR;have q1:L 9=true:=h1 9 (show (9:Nat)∈([0,1,2,3,4,5,6,7,8,9,10,11,12]:List Nat) by decide);have hJ':=hJ;rw[q1] at hJ';have hbx:=hJ'.box;have z:=aa hbx 4;have zf:=aK hbx 4;obtain ⟨c1,c2,c3,c4⟩:∃a n c,y 9=.slice a n c:=(hJ'.ur).sl3;have HQ:=hid (RJ.store4 c4 hJ);clear hJ hJ' hbx;rw[c4];unfold aR
            go_simp
            simp only[aJ];exact hR _ _ HQ.out
          simp only[Act.put];refine ia (by kernel_rfl) (by kernel_rfl) ((HRJ.out _ _ _ _).drew) ?_;intro y L W hJ hL;have hJ2:=hJ;rw[hL 3 (show 3<14 by decide),hL 4 (show 4<14 by decide),hL 8 (show 8<14 by decide),hL 9 (show 9<14 by decide),hL 11 (show 11<14 by decide),hL 13 (show 13<14 by decide),←HTX.out,←HTV.out] at hJ2;have HO7:=hid hJ2.out;clear hJ hJ2 hL
          go_wp2_with fail
          go_meet
          case rel=>exact ⟨acc++[(x,v)],by simp,by simp[HV.out],HO7.out⟩
     case rest=>
      obtain ⟨acc2,rfl,hac2,hout⟩:=hcut;clear y2;have hX:=(hout.1.block _ (by have:=HLT.out;have:=HO.out;omega)).trans HX7.out;have y3:=aa hX 3;have hbw:Below O w4 wc:=hout.1;have HOUT4:=hid hout;have HA2:=hid hac2
      have HL2:Hid (acc2.length≤2*i+1):=hid (by
       have:=HAL.out;rw[hac2,aE]
       split
       · split <;> simp <;> omega
       · simp;omega)
      clear hX hout HOUT3 hac2
      by_cases hlt:i<n
      · have hlt':(i:Int)<(n:Int):=by omega
        have hil:=HIL.out hlt;obtain ⟨g1,o1,c9,g2,o2,c8,e1,e2,-,-⟩:=HAV.out.cell hil;rw[HN.out] at e1 e2;obtain ⟨rfl,-,rfl⟩:=Value.slice.inj e1;obtain ⟨rfl,-,rfl⟩:=Value.slice.inj e2;clear e1 e2
        have HCW:Hid (∀W,Below O w4 W→W.cell? ⟨g1,o1+i,none⟩=some (.string (TI l[i].1))∧W.cell? ⟨g2,o2+i,none⟩=some (.string (TI l[i].2))):=hid fun W hW=>by
         obtain ⟨g3,o3,c7,g4,o4,c6,e1,e2,q1,q2⟩:=(HAV.out.far (HB4.out.trans (hW.mono (by have:=HLT.out;omega)))).cell hil;rw[HN.out] at e1 e2;obtain ⟨e1,-,-⟩:=Value.slice.inj e1;obtain ⟨e2,-,-⟩:=Value.slice.inj e2;obtain ⟨rfl,rfl,-⟩:=Addr.mk.inj (aI e1);obtain ⟨rfl,rfl,-⟩:=Addr.mk.inj (aI e2);exact ⟨q1,q2⟩
        have hnk:=HNK.out i hil;have HST:=hid (yM d x v pu l i hil acc _ q (by have:=HQ.out;rw[ay hil] at this;exact this) HAC.out);rw[←HA2.out] at HST;obtain ⟨tk,htk⟩:∃t,TI l[i].1=t:=⟨_,rfl⟩
        obtain ⟨tv2,htv2⟩:∃t,TI l[i].2=t:=⟨_,rfl⟩
        have HTK:=hid htk;have HTV2:=hid htv2;rw[htk,htv2] at HCW;rw[htk] at hnk;have hk:=(HCW.out wc hbw).1;clear htk htv2 hbw
        by_cases hkx:l[i].1=x
        · rw[aH hkx] at hnk;have HKX:=hid hkx;clear hkx
          go_wp2_with fail
          go_roundw
          case rel=>exact ⟨i+1,pu || q,acc2,by omega,by go_num,rfl,fun _=>by have:=HST.out;rw[aF HKX.out,List.append_nil] at this;exact this,fun e=>by omega,by have:=HL2.out;omega,HOUT4.out⟩
          case measure=>simp[intOf];omega
        · rw[aD hkx] at hnk;have HKX:Hid (¬l[i].1=x):=hid hkx;obtain ⟨hbel,ko,uo,hbx,hkr,hur,hnn⟩:=HOUT4.out;have HRJ:=hid fun (x3 x4 x8 x9:Value)=>OutA.rj (tk:=tk) (tv:=tv2) (x3:=x3) (x4:=x4) (x8:=x8) (x9:=x9) hbel hbx hkr hur hnn
          have HLA:Hid (acc2.length≤5000):=hid (by have:=HL2.out;omega);obtain ⟨a1,m1,c1,rfl⟩:=hkr.sl3;obtain ⟨a2,m2,c2,rfl⟩:=hur.sl3;have HXB:Hid (w4.heap[w.heap.size]? =some (.cells #[.int .i64 4,.bool false,.string td,.slice (some ⟨g1,o1,none⟩) n ck,.slice (some ⟨g2,o2,none⟩) n cu] 24 (0,0))):=HX7;have HB3LT:Hid (w.heap.size<O):=hid (by have:=HLT.out;have:=HO.out;omega);clear hkx hbel hbx hkr hur hnn
          go_upto_region 13 with fail
          clear y3 hnk hk;refine cE [[],[0],[],[2],[],[2,3,4],[2,3,4,5],[2,3,4,5,6],[0,1,2,3,4,5,6,7],[],[9],[],[11],[],[11,12,13],[11,12,13,14],[11,12,13,14,15],[0,1,2,3,4,5,6,7,8,9,10,11,12,13,14,15,16],[0,1,2,3,4,5,6,7,8,9,10],[0,1,2,3,4,5,6,7,8,9,10,11,12,13,14,15,16,17,18],[0,1,2,3,4,5,6,7,8,9,10,11,12,13,14,15,16,17,18,19],[0,1,2,3,4,5,6,7,8,9,10,11,12,13,14,15,16,17,18,19,20]] (fun y L W=>RJ O w4 td (.slice a1 m1 c1) (.slice a2 m2 c2) (kT acc2) (vT acc2) tk tv2 (L 7) (L 8) (L 16) (L 17) (L 19) (L 21) (y 7) (y 8) (y 16) (y 17) W) ?_;apply bf
          · intro y;go_simp;done
          · intro y L W R hJ h1 h2 h3 hR;unfold aR
            go_simp
            simp only[aJ];exact hR _ hJ
          simp only[Act.put,ac,ag,ah];apply bf
          · intro y;go_simp;done
          · intro y L W R hJ h1 h2 h3 hR;have q11:L 19=false:=h3 19 (show (1:Nat)∈([0,1,2,3,4,5,6,7,8,9,10,11,12,13,14,15,16,17,18]:List Nat) by decide);have hbx:=hJ.box;rw[q11] at hbx;have z3:W.cell? ⟨O,3,none⟩=some (.slice a1 m1 c1):=aa hbx 3;clear hbx;unfold aR
            go_simp
            simp only[aJ];exact hR _ hJ
          simp only[Act.put,ac,ag,ah];apply bf
          · intro y;go_simp;done
          · intro y L W R hJ h1 h2 h3 hR;have hX:=(hJ.bel.block _ HB3LT.out).trans HXB.out;have z13:=aa hX 3;have z14:=aa hX 4;obtain ⟨z15,z16⟩:=HCW.out W hJ.bel;clear hX;unfold aR
            go_simp
            simp only[aJ];exact hR _ hJ
          simp only[Act.put,ac,ag,ah];apply bf
          · intro y;go_simp;done
          · intro y L W R hJ h1 h2 h3 hR;have hX:=(hJ.bel.block _ HB3LT.out).trans HXB.out;have z13:=aa hX 3;have z14:=aa hX 4;obtain ⟨z15,z16⟩:=HCW.out W hJ.bel;clear hX;unfold aR
            go_simp
            simp only[aJ];exact hR _ hJ
          simp only[Act.put,ac,ag,ah];apply bf
          · intro y;go_simp;done
          · intro y L W R hJ h1 h2 h3 hR;have hX:=(hJ.bel.block _ HB3LT.out).trans HXB.out;have z13:=aa hX 3;have z14:=aa hX 4;obtain ⟨z15,z16⟩:=HCW.out W hJ.bel;clear hX;unfold aR
            go_simp
            simp only[aJ];exact hR _ hJ
          simp only[Act.put,ac,ag,ah];apply bf
          · intro y;go_simp;done
          · intro y L W R hJ h1 h2 h3 hR;have hX:=(hJ.bel.block _ HB3LT.out).trans HXB.out;have z13:=aa hX 3;have z14:=aa hX 4;obtain ⟨z15,z16⟩:=HCW.out W hJ.bel;clear hX;unfold aR
            go_simp
            simp only[aJ];exact hR _ hJ
          simp only[Act.put,ac,ag,ah];apply bf
          · intro y;go_simp;done
          · intro y L W R hJ h1 h2 h3 hR;have hX:=(hJ.bel.block _ HB3LT.out).trans HXB.out;have z13:=aa hX 3;have z14:=aa hX 4;obtain ⟨z15,z16⟩:=HCW.out W hJ.bel;clear hX;unfold aR
            go_simp
            simp only[aJ];exact hR _ hJ
          simp only[Act.put,ac,ag,ah];apply bI
          · intro y;go_simp;done
          · intro y L W R hJ h1 h2 h3 hR;have hB:=hid (RJ.build3 hJ);clear hJ;unfold aR
            go_simp
            simp only[aJ];exact hR _ _ hB.out
          simp only[Act.put,ac,ag,ah,aw,aN,Nat.zero_add,Nat.reduceAdd];apply bI
          · intro y;go_simp;done
          · intro y L W R hJ h1 h2 h3 hR;have q1:L 7=true:=h1 7 (show (7:Nat)∈([0,1,2,3,4,5,6,7]:List Nat) by decide);have q2:L 8=false:=h2;have q3:L 19=false:=h3 19 (show (8:Nat)∈([0,1,2,3,4,5,6,7,8,9,10,11,12,13,14,15,16,17,18]:List Nat) by decide);have hJ':=hJ;rw[q2,q3] at hJ';obtain ⟨g0,e1,e2,-⟩:=hJ'.s3 q1 rfl;rw[e1];have hown:=hJ'.kr;have hlo:=hJ'.lt;refine dR (.tmp 92) (.tmp 98) 22 rfl (O+1) 9 i0 _ 1 16 underlying22 hi hz0 hz1 hz2 rfl (by decide) (.slice a1 m1 c1) (kT acc2).length ((kT acc2).map Value.string) rfl hown ⟨g0,0,none⟩ 1 1 [.string tk] rfl rfl (World.news_of_block (cs:=#[.string tk]) (t:=9) (fr:=(0,0)) e2) (by simp[Value.oneCell']) (by have:=HLA.out;simp[kT];unfold maxLen;omega) (by have:=HLA.out;simp[kT];omega) (by omega) ?_;intro v' w' hown' hgr hat
            exact hR _ _ (by
             have hq:=hJ'.app4 hown' hgr hat;rw[←q3] at hq
             exact hq)
          simp only[Act.put,ac,ag,ah,aw,aN,Nat.zero_add,Nat.reduceAdd];apply bf
          · intro y;go_simp;done
          · intro y L W R hJ h1 h2 h3 hR;unfold aR
            go_simp
            simp only[aJ];exact hR _ hJ
          simp only[Act.put,ac,ag,ah];apply bf
          · intro y;go_simp;done
          · intro y L W R hJ h1 h2 h3 hR;have q13:L 21=false:=h3 21 (show (10:Nat)∈([0,1,2,3,4,5,6,7,8,9,10,11,12,13,14,15,16,17,18,19,20]:List Nat) by decide);have hbx:=hJ.box;rw[q13] at hbx;have z4:W.cell? ⟨O,4,none⟩=some (.slice a2 m2 c2):=aa hbx 4;clear hbx;unfold aR
            go_simp
            simp only[aJ];exact hR _ hJ
          simp only[Act.put,ac,ag,ah];apply bf
          · intro y;go_simp;done
          · intro y L W R hJ h1 h2 h3 hR;have hX:=(hJ.bel.block _ HB3LT.out).trans HXB.out;have z13:=aa hX 3;have z14:=aa hX 4;obtain ⟨z15,z16⟩:=HCW.out W hJ.bel;clear hX;unfold aR
            go_simp
            simp only[aJ];exact hR _ hJ
          simp only[Act.put,ac,ag,ah];apply bf
          · intro y;go_simp;done
          · intro y L W R hJ h1 h2 h3 hR;have hX:=(hJ.bel.block _ HB3LT.out).trans HXB.out;have z13:=aa hX 3;have z14:=aa hX 4;obtain ⟨z15,z16⟩:=HCW.out W hJ.bel;clear hX;unfold aR
            go_simp
            simp only[aJ];exact hR _ hJ
          simp only[Act.put,ac,ag,ah];apply bf
          · intro y;go_simp;done
          · intro y L W R hJ h1 h2 h3 hR;have hX:=(hJ.bel.block _ HB3LT.out).trans HXB.out;have z13:=aa hX 3;have z14:=aa hX 4;obtain ⟨z15,z16⟩:=HCW.out W hJ.bel;clear hX;unfold aR
            go_simp
            simp only[aJ];exact hR _ hJ
          simp only[Act.put,ac,ag,ah];apply bf
          · intro y;go_simp;done
          · intro y L W R hJ h1 h2 h3 hR;have hX:=(hJ.bel.block _ HB3LT.out).trans HXB.out;have z13:=aa hX 3;have z14:=aa hX 4;obtain ⟨z15,z16⟩:=HCW.out W hJ.bel;clear hX;unfold aR
            go_simp
            simp only[aJ];exact hR _ hJ
          simp only[Act.put,ac,ag,ah];apply bf
          · intro y;go_simp;done
          · intro y L W R hJ h1 h2 h3 hR;have hX:=(hJ.bel.block _ HB3LT.out).trans HXB.out;have z13:=aa hX 3;have z14:=aa hX 4;obtain ⟨z15,z16⟩:=HCW.out W hJ.bel;clear hX;unfold aR
            go_simp
            simp only[aJ];exact hR _ hJ
          simp only[Act.put,ac,ag,ah];apply bI
          · intro y;go_simp;done
          · intro y L W R hJ h1 h2 h3 hR;have hB:=hid (RJ.build8 hJ);clear hJ;unfold aR
            go_simp
            simp only[aJ];exact hR _ _ hB.out
          simp only[Act.put,ac,ag,ah,aw,aN,Nat.zero_add,Nat.reduceAdd];apply bI
          · intro y;go_simp;done
          · intro y L W R hJ h1 h2 h3 hR;have q1:L 16=true:=h1 16 (show (16:Nat)∈([0,1,2,3,4,5,6,7,8,9,10,11,12,13,14,15,16]:List Nat) by decide);have q2:L 17=false:=h2;have q3:L 21=false:=h3 21 (show (17:Nat)∈([0,1,2,3,4,5,6,7,8,9,10,11,12,13,14,15,16,17,18,19,20]:List Nat) by decide);have hJ':=hJ;rw[q2,q3] at hJ';obtain ⟨g0,e1,e2,-⟩:=hJ'.s8 q1 rfl;rw[e1];have hown:=hJ'.ur;have hlo:=hJ'.lt;refine dR (.tmp 101) (.tmp 107) 22 rfl (O+1) 9 i0 _ 1 16 underlying22 hi hz0 hz1 hz2 rfl (by decide) (.slice a2 m2 c2) (vT acc2).length ((vT acc2).map Value.string) rfl hown ⟨g0,0,none⟩ 1 1 [.string tv2] rfl rfl (World.news_of_block (cs:=#[.string tv2]) (t:=9) (fr:=(0,0)) e2) (by simp[Value.oneCell']) (by have:=HLA.out;simp[vT];unfold maxLen;omega) (by have:=HLA.out;simp[vT];omega) (by omega) ?_;intro v' w' hown' hgr hat
            exact hR _ _ (by
             have hq:=hJ'.app9 hown' hgr hat;rw[←q3] at hq
             exact hq)
          simp only[Act.put,ac,ag,ah,aw,aN,Nat.zero_add,Nat.reduceAdd];apply bf
          · intro y;go_simp;done
          · intro y L W R hJ h1 h2 h3 hR;unfold aR
            go_simp
            simp only[aJ];exact hR _ hJ
          simp only[Act.put,ac,ag,ah];apply bI
          · intro y;go_simp;done
          · intro y L W R hJ h1 h2 h3 hR;have q1:L 8=true:=h1 8 (show (8:Nat)∈([0,1,2,3,4,5,6,7,8,9,10,11,12,13,14,15,16,17,18]:List Nat) by decide);have hJ':=hJ;rw[q1] at hJ';have hbx:=hJ'.box;have z:=aa hbx 3;have zf:=aK hbx 3;obtain ⟨c1,c2,c3,c4⟩:∃a n c,y 8=.slice a n c:=(hJ'.kr).sl3;have HQ:=hid (RJ.store3 c4 hJ);clear hJ hJ' hbx;rw[c4];unfold aR
            go_simp
            simp only[aJ];exact hR _ _ HQ.out
          simp only[Act.put];apply bf
          · intro y;go_simp;done
          · intro y L W R hJ h1 h2 h3 hR;unfold aR
            go_simp
            simp only[aJ];exact hR _ hJ
          simp only[Act.put,ac,ag,ah];apply bI
          · intro y;go_simp;done
          · intro y L W R hJ h1 h2 h3 hR;have q1:L 17=true:=h1 17 (show (17:Nat)∈([0,1,2,3,4,5,6,7,8,9,10,11,12,13,14,15,16,17,18,19,20]:List Nat) by decide);have hJ':=hJ;rw[q1] at hJ';have hbx:=hJ'.box;have z:=aa hbx 4;have zf:=aK hbx 4;obtain ⟨c1,c2,c3,c4⟩:∃a n c,y 17=.slice a n c:=(hJ'.ur).sl3;have HQ:=hid (RJ.store4 c4 hJ);clear hJ hJ' hbx;rw[c4];unfold aR
            go_simp
            simp only[aJ];exact hR _ _ HQ.out
          simp only[Act.put];refine ia (by kernel_rfl) (by kernel_rfl) ((HRJ.out _ _ _ _).drew) ?_;intro y L W hJ hL;have hJ2:=hJ;rw[hL 7 (show 7<22 by decide),hL 8 (show 8<22 by decide),hL 16 (show 16<22 by decide),hL 17 (show 17<22 by decide),hL 19 (show 19<22 by decide),hL 21 (show 21<22 by decide),←HTK.out,←HTV2.out] at hJ2;have HO7:=hid hJ2.out;clear hJ hJ2 hL
          go_wp2_with fail
          go_roundw
          case rel=>exact ⟨i+1,pu || q,acc2++[l[i]],by omega,by go_num,rfl,fun _=>by have:=HST.out;rw[aB HKX.out] at this;exact this,fun e=>by omega,by have:=HL2.out;simp;omega,HO7.out⟩
          case measure=>simp[intOf];omega
      · obtain rfl:i=n:=by omega
        have hlt':¬(i:Int)<(i:Int):=by omega
        have HST:=hid (AA d x v pu l i HN.out acc _ q (by have:=HQ.out;rw[List.getElem?_eq_none (by rw[HN.out];exact aj _)] at this;exact this) HAC.out);rw[←HA2.out] at HST;clear hbw
        go_wp2_with fail
        go_roundw
        case rel=>exact ⟨i+1,pu || q,acc2,by omega,by go_num,rfl,fun e=>by omega,fun _=>HST.out,by have:=HL2.out;omega,HOUT4.out⟩
        case measure=>simp[intOf]
  · obtain rfl:i=n+1:=by omega
    have hle':¬(((n+1:Nat):Int)≤(n:Int)):=by omega
    obtain rfl:=hfin rfl;obtain ⟨hbel,ko,uo,hbx,hkr,hur,-⟩:=hout;obtain ⟨a1,m1,c1,rfl⟩:=hkr.sl3;obtain ⟨a2,m2,c2,rfl⟩:=hur.sl3;have z0:=aa hbx 0;have z1:=aa hbx 1;have z2:=aa hbx 2;have z3:=aa hbx 3;have z4:=aa hbx 4;have hx8:=(hbel.block _ (show w.heap.size+1<O by have:=HLT.out;have:=HO.out;omega)).trans HX8.out;have f0:=aa hx8 0;have f1:=aa hx8 1;have f2:=aa hx8 2;have f3:=aa hx8 3;have f4:=aa hx8 4;have g0:=aK hx8 0;have g1:=aK hx8 1;have g2:=aK hx8 2;have g3:=aK hx8 3;have g4:=aK hx8 4;have HFIN:=hid (m9 hx8 (.int .i64 4) (.bool false) (.string td) (.slice a1 m1 c1) (.slice a2 m2 c2));have HKR:=hid hkr;have HUR:=hid hur;have HBE:=hid (HB4.out.trans (hbel.mono (by have:=HLT.out;have:=HO.out;omega)));have HOS:Hid (w.heap.size+1<O):=hid (by have:=HLT.out;have:=HO.out;omega);clear hbel hbx hkr hur hx8 hac hX
    go_wp2
    obtain ⟨s1,s2,s3⟩:=HFIN.out;exact jI (E:=0) rfl rfl rfl rfl ⟨_,_,_,rfl⟩ ⟨_,_,_,rfl⟩ s1 ⟨_,_,rfl,⟨SRow.down (aX HKR.out fun g hg=>s2 g (by have:=(HKR.out.lt g hg).1;have:=HOS.out;omega)) (by have:=HOS.out;omega),SRow.down (aX HUR.out fun g hg=>s2 g (by have:=(HUR.out.lt g hg).1;have:=HOS.out;omega)) (by have:=HOS.out;omega),HAV.out.vd.st x v,HAV.out.sd,Arx.st_all HAV.out.sl HSX.out.1 HSX.out.2,by have:=Arx.st_len d l x v;have:=HN.out;omega⟩,s3 HBE.out (by omega)⟩
theorem yN (S:Nat) (w:World) {d:Int} (hd:Sm d):AV S w d [] (.slice none 0 0) (.slice none 0 0):=
 ⟨World.ownsRow_nil _ _ _ _,World.ownsRow_nil _ _ _ _,trivial,hd,(fun p hp=>by cases hp),aM _⟩
theorem AV.blocks {S:Nat} {w w':World} {d:Int} {l:Arx.L} {k u:Value} (h:AV S w d l k u) (hb:∀g,S≤g→(∃cs fr,w.heap[g]? =some (.cells cs 9 fr))→w'.heap[g]? =w.heap[g]?):AV S w' d l k u:=by
 have key:∀{v:Value} {ts:List ByteArray},SRow S w v ts→SRow S w' v ts:=by
  intro v ts hv;refine aX hv fun g hg=>?_
  obtain ⟨-,h0 | ⟨g',cap,cur,rfl,hbg,hh,-⟩⟩:=id hv
  · rw[h0.1] at hg;cases hg
  · obtain rfl:g'=g:=aI hg;exact hb _ hbg ⟨_,_,hh⟩
 exact ⟨key h.ks,key h.us,h.vd,h.sd,h.sl,h.ln⟩
theorem AV.ch {S C:Nat} {w w':World} {d:Int} {l:Arx.L} {k u:Value} (h:AV S w d l k u) (hC:C<S) (hg:w.grownBy w' (some C)):AV S w' d l k u:=
 h.blocks fun g hS ⟨_,_,hh⟩=>hg.block g (ar hh) fun e=>by have:=aI e;omega
structure VJ2 (C:Nat) (ao:Option Addr) (n cap:Nat) (w:World) (R V S:Nat) (d:Int) (l:Arx.L) (k0 u0:Value) (td:ByteArray) (l2 l4 l5 l6 l7 l9:Bool) (x2 x4 x5 x6 x7:Value) (W:World):Prop where
 ch:Ch C ao n cap W
 gr:w.grownBy W (some C)∧C<S∧S≤R∧S≤V∧R≠V∧S=w.heap.size
 rb:W.heap[R]? =some (.cells #[.int .i64 0,.bool false,.string ⟨#[]⟩,.slice none 0 0,.slice none 0 0] 24 (0,0))
 av:AV S W d l k0 u0
 vb:l9=false→W.heap[V]? =some (.cells #[.int .i64 4,.bool false,.string td,k0,u0] 24 (0,0))
 vc:l9=true→∃k' u',x5=.tuple #[.agg #[.int .i64 4,.bool false,.string td,k',u'],.int .i64 0]∧W.heap[V]? =some (.cells #[.int .i64 4,.bool false,.string td,k',u'] 24 (0,0))
 s2:l2=true→∃z,Sm z∧x2=.string (TI z)
 s4:l4=true→∃z,Sm z∧x4=.string (TI z)
 s5:l5=true→∃z1 z2 k' u',x5=.tuple #[.agg #[.int .i64 4,.bool false,.string td,k',u'],.int .i64 0]∧AV S W d (Arx.stA d l z1 z2) k' u'
 s6:l6=true→x6=x5
 s7:l7=true→x5=.tuple #[x7,.int .i64 0]
section
variable {C:Nat} {ao:Option Addr} {n cap:Nat} {w:World} {R V S:Nat} {d:Int} {l:Arx.L} {k0 u0:Value} {td:ByteArray} {l2 l4 l5 l6 l7 l9:Bool} {x2 x4 x5 x6 x7:Value} {W W':World}
theorem VJ2.sz (h:VJ2 C ao n cap w R V S d l k0 u0 td l2 l4 l5 l6 l7 l9 x2 x4 x5 x6 x7 W):S≤W.heap.size:=aP h.gr.2.2.1 (aL (ar h.rb))
theorem VJ2.int (h:VJ2 C ao n cap w R V S d l k0 u0 td l2 l4 l5 l6 l7 l9 x2 x4 x5 x6 x7 W) (hc:Ch C ao n cap W') (hg:W.grownBy W' (some C)):VJ2 C ao n cap w R V S d l k0 u0 td l2 l4 l5 l6 l7 l9 x2 x4 x5 x6 x7 W' where
 ch:=hc
 gr:=⟨grown_trans h.gr.1 hg,h.gr.2⟩
 rb:=(hg.block _ (ar h.rb) (fun e=>by have:=aI e;have:=h.gr.2;omega)).trans h.rb
 av:=h.av.ch h.gr.2.1 hg
 vb:=fun e=>(hg.block _ (ar (h.vb e)) (fun e=>by have:=aI e;have:=h.gr.2;omega)).trans (h.vb e)
 vc:=fun e=>let ⟨k',u',h1,h2⟩:=h.vc e;⟨k',u',h1,(hg.block _ (ar h2) (fun e=>by have:=aI e;have:=h.gr.2;omega)).trans h2⟩
 s2:=h.s2
 s4:=h.s4
 s5:=fun e=>let ⟨z1,z2,k',u',h1,h2⟩:=h.s5 e;⟨z1,z2,k',u',h1,h2.ch h.gr.2.1 hg⟩
 s6:=h.s6
 s7:=h.s7
theorem VJ2.far (h:VJ2 C ao n cap w R V S d l k0 u0 td l2 l4 l5 l6 l7 l9 x2 x4 x5 x6 x7 W) (hb:Below W.heap.size W W'):VJ2 C ao n cap w R V S d l k0 u0 td l2 l4 l5 l6 l7 l9 x2 x4 x5 x6 x7 W':=
 h.int (h.ch.call hb) (dt (cx hb))
theorem VJ2.set {k' u':Value} (h:VJ2 C ao n cap w R V S d l k0 u0 td l2 l4 l5 l6 l7 false x2 x4 x5 x6 x7 W) (e5:x5=.tuple #[.agg #[.int .i64 4,.bool false,.string td,k',u'],.int .i64 0])
    (s1:W'.heap[V]? =some (.cells #[.int .i64 4,.bool false,.string td,k',u'] 24 (0,0))) (s2:∀b,b≠V→W'.heap[b]? =W.heap[b]?) (s3:∀{B:Nat} {w0:World},Below B w0 W→B≤V→Below B w0 W'):
    VJ2 C ao n cap w R V S d l k0 u0 td l2 l4 l5 l6 l7 true x2 x4 x5 x6 x7 W':=by
 have hbw:Below V W W':=s3 (am V W) (aj _);have hg:w.grownBy W' (some C):=⟨hbw.os.trans h.gr.1.os,hbw.tape.trans h.gr.1.tape,hbw.output.trans h.gr.1.output,aP h.gr.1.size hbw.size,fun k hk hne=>(s2 k (by have:=h.gr.2;omega)).trans (h.gr.1.block k hk hne)⟩
 have hav:∀{l1:Arx.L} {k u:Value},AV S W d l1 k u→AV S W' d l1 k u:=fun hv=>hv.blocks fun g _ ⟨cs,fr,hh⟩=>s2 g fun e=>by
  subst e;have:=(h.vb rfl).symm.trans hh;injection aI this with _ e2 _;exact absurd e2 (by decide)
 have hgV:W.grownBy W' (some V):=⟨hbw.os,hbw.tape,hbw.output,hbw.size,fun k _ hne=>s2 k fun e=>hne (by rw[e])⟩
 exact { ch:=h.ch.grown hgV (fun k e=>by have:=aI e;have:=h.gr.2;omega),gr:=⟨hg,h.gr.2⟩,rb:=(s2 R (by have:=h.gr.2;omega)).trans h.rb,av:=hav h.av,vb:=fun e=>absurd e (by decide),vc:=fun _=>⟨k',u',e5,s1⟩,s2:=h.s2,s4:=h.s4,s5:=fun e=>let ⟨z1,z2,k1,u1,q1,q2⟩:=h.s5 e;⟨z1,z2,k1,u1,q1,hav q2⟩,s6:=h.s6,s7:=h.s7 }
end
theorem AB (C:Nat) (ao:Option Addr) (n cap:Nat) (w:World) (h:Ch C ao n cap w):
    Calls prog 16 #[.pointer (some ⟨C,0,none⟩),.int .i64 4] w fun e w'=>∃d l k u,e=.returned (bh 4 false (TI d) k u)∧AV w.heap.size w' d l k u∧l.length≤3∧Ch C ao n cap w'∧w.grownBy w' (some C):=by
 have HC0:=hid h;have hA:=aO w (.cells #[.int .i64 0,.bool false,.string ⟨#[]⟩,.slice none 0 0,.slice none 0 0] 24);have hx:=aq w (.cells #[.int .i64 0,.bool false,.string ⟨#[]⟩,.slice none 0 0,.slice none 0 0] 24);have HC1:=hid (h.call hA);have HR1:=hid hx;have HG1:=hid (dt (r:=some C) (cx hA));have HCS:Hid (C<w.heap.size):=hid h.lt;clear h hA hx;unfold bh
 go_enter func16,ntmps16
 go_upto_region 5 with fail
 generalize hw1:w.alloc _=w1 at *;have HIN:=hid (eO C ao n cap w1 HC1.out);clear hw1 HC1
 go_wp2_with fail
 refine HIN.out.mono ?_;rintro e w2 ⟨d,hd,rfl,hch,hg⟩;rw[show TX (d:Rat)=TI d from rfl];obtain ⟨td,htd⟩:∃t,TI d=t:=⟨_,rfl⟩
 have HTD:=hid htd;rw[htd];have hsd:Sm d:=Nat.lt_trans hd (by decide);have ha:=aO w2 (.cells #[.int .i64 4,.bool false,.string td,.slice none 0 0,.slice none 0 0] 24);have hv:=aq w2 (.cells #[.int .i64 4,.bool false,.string td,.slice none 0 0,.slice none 0 0] 24);have HC2:=hid (hch.call ha);have HG2:=hid (cK (grown_trans HG1.out hg) ha);have HR2:=hid ((ha.block _ (aC (ar HR1.out) hg.size)).trans ((hg.block _ (ar HR1.out) (fun e=>by have:=aI e;have:=HCS.out;omega)).trans HR1.out));have HV2:=hid hv;have HLT:Hid (w.heap.size<w2.heap.size):=hid (aC (ar HR1.out) hg.size);have HSD:=hid hsd;clear hd hch hg ha hv htd hsd HIN HC0 HG1 HR1
 go_upto_region 6 with fail
 generalize hV:w2.heap.size=V at *;generalize hw3:w2.alloc _=w3 at *;clear hV hw3;have HNX:=hid (ek C ao n cap w3 4 (by decide) (by decide) HC2.out)
 go_wp2_with fail
 refine HNX.out.mono ?_;rintro e w4 ⟨r,hr,rfl,hch,hg,hsz⟩;have HC4:=hid hch;have HG4:=hid (grown_trans HG2.out hg);have HR4:=hid ((hg.block _ (ar HR2.out) (fun e=>by have:=aI e;have:=HCS.out;omega)).trans HR2.out);have HV4:=hid ((hg.block _ (ar HV2.out) (fun e=>by have:=aI e;have:=HCS.out;have:=HLT.out;omega)).trans HV2.out);clear hch hg hsz HC2 HG2 HR2 HV2 HNX
 go_wp2_with fail
 go_loopw [6] (fun v6 wr=>∃(q:Nat) (l:Arx.L) (k u:Value),v6=.int .i64 (q:Nat)∧q+l.length≤3∧wr.heap[V]? =some (.cells #[.int .i64 4,.bool false,.string td,k,u] 24 (0,0))∧wr.heap[w.heap.size]? =some (.cells #[.int .i64 0,.bool false,.string ⟨#[]⟩,.slice none 0 0,.slice none 0 0] 24 (0,0))∧AV w.heap.size wr d l k u∧Ch C ao n cap wr∧w.grownBy wr (some C)) (fun v _=>(intOf v).toNat)
 case atStart=>exact ⟨r,[],_,_,rfl,by simp;omega,HV4.out,HR4.out,yN _ _ HSD.out,HC4.out,HG4.out⟩
 case round=>
  obtain ⟨q,l,k0,u0,rfl,hql,hvb,hrb,hav,hch,hgr⟩:=hrel
  by_cases hq0:q=0
  · subst hq0;have z0:=aa hvb 0;have z1:=aa hvb 1;have z2:=aa hvb 2;have z3:=aa hvb 3;have z4:=aa hvb 4;have f0:=aa hrb 0;have f1:=aa hrb 1;have f2:=aa hrb 2;have f3:=aa hrb 3;have f4:=aa hrb 4;have g0:=aK hrb 0;have g1:=aK hrb 1;have g2:=aK hrb 2;have g3:=aK hrb 3;have g4:=aK hrb 4;obtain ⟨a1,c1,a2,c2,rfl,rfl⟩:=hav.form;obtain ⟨m,hm⟩:∃m,l.length=m:=⟨_,rfl⟩
    have HM:=hid hm;simp only[hm] at hav hvb z3 z4;have HFIN:=hid (m9 hrb (.int .i64 4) (.bool false) (.string td) (.slice a1 m c1) (.slice a2 m c2));have HAV:=hid hav;have HCH:=hid hch;have HGR:=hid hgr;have HRB:=hid hrb;have HQL:Hid (m≤3):=hid (by omega);clear hm hql hvb hrb hav hch hgr
    go_wp2
    obtain ⟨s1,s2,s3⟩:=HFIN.out;have hbw:=s3 (am w.heap.size wr) (aj _);refine d8 rfl rfl rfl ⟨_,_,_,rfl⟩ ⟨_,_,_,rfl⟩ s1 ⟨d,l,_,_,by rw[HTD.out];rfl,HAV.out.blocks fun g _ ⟨cs,fr,hh⟩=>s2 g fun e=>?_,by rw[HM.out];exact HQL.out,HCH.out.grown (r:=some w.heap.size) ⟨hbw.os,hbw.tape,hbw.output,hbw.size,fun k _ hne=>s2 k fun e=>hne (by rw[e])⟩ (fun k e=>by have:=aI e;have:=HCS.out;omega),⟨hbw.os.trans HGR.out.os,hbw.tape.trans HGR.out.tape,hbw.output.trans HGR.out.output,aP HGR.out.size hbw.size,fun k hk hne=>(s2 k (by omega)).trans (HGR.out.block k hk hne)⟩⟩;subst e;have:=HRB.out.symm.trans hh;injection aI this with _ e2 _;exact absurd e2 (by decide)
  · have hq1:(0:Int)<(q:Int):=by omega
    have HLL:Hid (l.length≤3):=hid (by omega);have HQ:Hid (q+l.length≤3∧0<q):=hid ⟨hql,by omega⟩;obtain ⟨a1,c1,a2,c2,rfl,rfl⟩:=hav.form;obtain ⟨m,hm⟩:∃m,l.length=m:=⟨_,rfl⟩
    have HM:=hid hm;simp only[hm] at hav hvb;have HI:=hid fun (x2 x4 x5 x6 x7:Value)=>(show VJ2 C ao n cap w w.heap.size V w.heap.size d l (.slice a1 m c1) (.slice a2 m c2) td false false false false false false x2 x4 x5 x6 x7 wr from ⟨hch,⟨hgr,HCS.out,aj _,aL HLT.out,(by have:=HLT.out;omega),rfl⟩,hrb,hav,fun _=>hvb,(fun e=>by cases e),(fun e=>by cases e),(fun e=>by cases e),(fun e=>by cases e),(fun e=>by cases e),(fun e=>by cases e)⟩)
    clear hm hql hvb hrb hav hch hgr;have hw1:IntKind.i64.wrap ((q:Int)-1)=((q-1:Nat):Int):=by have:=HQ.out;rw[IntKind.wrap_i64];omega
    go_upto_region 9 with fail
    refine cE [[],[],[1],[],[1,2,3],[0,1,2,3,4],[0,1,2,3,4,5],[0,1,2,3,4,5,6],[0,1,2,3,4,5,6],[0,1,2,3,4,5,6,7]] (fun y L W=>VJ2 C ao n cap w w.heap.size V w.heap.size d l (.slice a1 m c1) (.slice a2 m c2) td (L 2) (L 4) (L 5) (L 6) (L 7) (L 9) (y 2) (y 4) (y 5) (y 6) (y 7) W) ?_;apply bf
    · intro y;go_simp;done
    · intro y L W R hJ h1 h2 h3 hR;have hbx:=hJ.vb (h3 9 (show (0:Nat)∈([0,1,2,3,4,5,6,7]:List Nat) by decide));have z0:=aa hbx 0;have z1:=aa hbx 1;have z2:=aa hbx 2;have z3:=aa hbx 3;have z4:=aa hbx 4;clear hbx;unfold aR
      go_simp
      simp only[aJ];exact hR _ hJ
    simp only[Act.put,ac,ag,ah];apply bf
    · intro y;go_simp;done
    · intro y L W R hJ h1 h2 h3 hR;unfold aR
      go_simp
      simp only[aJ];exact hR _ hJ
    simp only[Act.put,ac,ag,ah];apply bI
    · intro y;go_simp;done
    · intro y L W R hJ h1 h2 h3 hR;have hc:=eO C ao n cap W hJ.ch;have HJ:=hid hJ;clear hJ;unfold aR
      go_simp
      simp only[aJ];refine hc.mono ?_;rintro e w' ⟨z,hz,rfl,hch,hg⟩;have hsz:Sm z:=Nat.lt_trans hz (by decide);have hf:=HJ.out.int hch hg;exact ⟨_,rfl,hR _ _ ⟨hf.ch,hf.gr,hf.rb,hf.av,hf.vb,hf.vc,fun _=>⟨z,hsz,rfl⟩,hf.s4,hf.s5,hf.s6,hf.s7⟩⟩
    simp only[Act.put,ac,ag,ah,aw,aN,Nat.zero_add,Nat.reduceAdd];apply bf
    · intro y;go_simp;done
    · intro y L W R hJ h1 h2 h3 hR;unfold aR
      go_simp
      simp only[aJ];exact hR _ hJ
    simp only[Act.put,ac,ag,ah];apply bI
    · intro y;go_simp;done
    · intro y L W R hJ h1 h2 h3 hR;have hc:=eO C ao n cap W hJ.ch;have HJ:=hid hJ;clear hJ;unfold aR
      go_simp
      simp only[aJ];refine hc.mono ?_;rintro e w' ⟨z,hz,rfl,hch,hg⟩;have hsz:Sm z:=Nat.lt_trans hz (by decide);have hf:=HJ.out.int hch hg;exact ⟨_,rfl,hR _ _ ⟨hf.ch,hf.gr,hf.rb,hf.av,hf.vb,hf.vc,hf.s2,fun _=>⟨z,hsz,rfl⟩,hf.s5,hf.s6,hf.s7⟩⟩
    simp only[Act.put,ac,ag,ah,aw,aN,Nat.zero_add,Nat.reduceAdd];apply bI
    · intro y;go_simp;done
    · intro y L W R hJ h1 h2 h3 hR;obtain ⟨z1,hz1,q1⟩:=hJ.s2 (h1 2 (show (2:Nat)∈([0,1,2,3,4]:List Nat) by decide));obtain ⟨z2,hz2,q2⟩:=hJ.s4 (h1 4 (show (4:Nat)∈([0,1,2,3,4]:List Nat) by decide));have q9:L 9=false:=h3 9 (show (5:Nat)∈([0,1,2,3,4,5,6,7]:List Nat) by decide);have hc:=qn W hJ.av.rd hz1 hz2 (by have:=HLL.out;omega);rw[HTD.out] at hc;unfold bh at hc;have HJ:=hid hJ;clear hJ;rw[q1,q2];unfold aR
      go_simp
      simp only[aJ];refine hc.mono ?_;rintro e w' ⟨k',u',rfl,hav,hb⟩;have hf:=HJ.out.far hb;exact ⟨_,rfl,hR _ _ ⟨hf.ch,hf.gr,hf.rb,hf.av,hf.vb,fun e=>absurd (q9.symm.trans (show L 9=true from e)) (by decide),hf.s2,hf.s4,fun _=>⟨z1,z2,k',u',rfl,hav.down HJ.out.sz⟩,fun e=>absurd ((h3 6 (show (5:Nat)∈([0,1,2,3,4,5]:List Nat) by decide)).symm.trans (show L 6=true from e)) (by decide),fun e=>absurd ((h3 7 (show (5:Nat)∈([0,1,2,3,4,5,6]:List Nat) by decide)).symm.trans (show L 7=true from e)) (by decide)⟩⟩
    simp only[Act.put,ac,ag,ah,aw,aN,Nat.zero_add,Nat.reduceAdd];apply bI
    · intro y;go_simp;done
    · intro y L W R hJ h1 h2 h3 hR;unfold aR
      go_simp
      simp only[aJ];exact hR _ _ ⟨hJ.ch,hJ.gr,hJ.rb,hJ.av,hJ.vb,hJ.vc,hJ.s2,hJ.s4,hJ.s5,fun _=>rfl,hJ.s7⟩
    simp only[Act.put,ac,ag,ah,aw,aN,Nat.zero_add,Nat.reduceAdd];apply bI
    · intro y;go_simp;done
    · intro y L W R hJ h1 h2 h3 hR;obtain ⟨z1,z2,k',u',q5,-⟩:=hJ.s5 (h1 5 (show (5:Nat)∈([0,1,2,3,4,5,6]:List Nat) by decide));have q6:y 6=y 5:=hJ.s6 (h1 6 (show (6:Nat)∈([0,1,2,3,4,5,6]:List Nat) by decide));rw[q6,q5];unfold aR
      go_simp
      simp only[aJ];exact hR _ _ ⟨hJ.ch,hJ.gr,hJ.rb,hJ.av,hJ.vb,hJ.vc,hJ.s2,hJ.s4,hJ.s5,hJ.s6,fun _=>q5⟩
    simp only[Act.put,ac,ag,ah,aw,aN,Nat.zero_add,Nat.reduceAdd];apply bI
    · intro y;go_simp;done
    · intro y L W R hJ h1 h2 h3 hR;obtain ⟨z1,z2,k',u',q5,-⟩:=hJ.s5 (h1 5 (show (5:Nat)∈([0,1,2,3,4,5,6]:List Nat) by decide));have q6:y 6=y 5:=hJ.s6 (h1 6 (show (6:Nat)∈([0,1,2,3,4,5,6]:List Nat) by decide));rw[q6,q5];unfold aR
      go_simp
      simp only[aJ];exact hR _ _ hJ
    simp only[Act.put,ac,ag,ah,aw,aN,Nat.zero_add,Nat.reduceAdd];apply bI
    · intro y;go_simp;done
    · intro y L W R hJ h1 h2 h3 hR;obtain ⟨z1,z2,k',u',q5,hav⟩:=hJ.s5 (h1 5 (show (5:Nat)∈([0,1,2,3,4,5,6,7]:List Nat) by decide));have q7:=(hJ.s7 (h1 7 (show (7:Nat)∈([0,1,2,3,4,5,6,7]:List Nat) by decide))).symm.trans q5;have q8:y 7=.agg #[.int .i64 4,.bool false,.string td,k',u']:=by simpa using q7
      obtain ⟨b1,e1,b2,e2,rfl,rfl⟩:=hav.form;have hbx:=hJ.vb h2;have cz0:=aa hbx 0;have cf0:=aK hbx 0;have cz1:=aa hbx 1;have cf1:=aK hbx 1;have cz2:=aa hbx 2;have cf2:=aK hbx 2;have cz3:=aa hbx 3;have cf3:=aK hbx 3;have cz4:=aa hbx 4;have cf4:=aK hbx 4;obtain ⟨s1,s2,s3⟩:=m9 hbx (.int .i64 4) (.bool false) (.string td) (.slice b1 (Arx.stA d l z1 z2).length e1) (.slice b2 (Arx.stA d l z1 z2).length e2);have q9:L 9=false:=h2;have hJ':=hJ;rw[q9] at hJ';have HJ:=hid (hJ'.set q5 s1 s2 s3);clear hJ hJ' hbx s1 s2 s3 hav;rw[q8];unfold aR
      go_simp
      simp only[aJ];exact hR _ _ HJ.out
    simp only[Act.put];refine ia (by kernel_rfl) (by kernel_rfl) ((HI.out _ _ _ _ _).far (am _ _).drew) ?_;intro y L W hJ hL;obtain ⟨k1,u1,q5,hvb⟩:=hJ.vc (hL 9 (show 9<10 by decide));obtain ⟨z1,z2,k2,u2,q6,hav⟩:=hJ.s5 (hL 5 (show 5<10 by decide));have q7:=q5.symm.trans q6;have q8:k1=k2∧u1=u2:=by simpa using q7
    obtain ⟨rfl,rfl⟩:=q8;have HVB:=hid hvb;have HAV:=hid hav;have HCH:=hid hJ.ch;have HGR:=hid hJ.gr.1;have HRB:=hid hJ.rb;clear hJ hL hvb hav q5 q6 q7
    go_wp2_with fail
    go_roundw
    case rel=>exact ⟨q-1,Arx.stA d l z1 z2,k1,u1,rfl,by have:=Arx.st_len d l z1 z2;have:=HQ.out;omega,HVB.out,HRB.out,HAV.out,HCH.out,HGR.out⟩
    case measure=>have:=HQ.out;simp[intOf];omega
end Go.Proofs.YtpkfnnkbfphfbaaGreatDoor.Se

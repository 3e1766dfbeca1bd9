/- The law's with: a drawn term, some of it under a function. -/
import Derived.Test.YtapdbeaoakcjeaaGreatDoorEWS
import Derived.Test.YtapdbeaoakcjeaaGreatDoorEShelf
set_option maxRecDepth 100000
set_option maxHeartbeats 40000000
open Go.Lib (hid)
namespace Go.Proofs.YtapdbeaoakcjeaaGreatDoor.Se
open Go.RowKit Nmx
theorem xf {w w':World} {o:Obj} (h:(w.alloc o).grownBy w' (some w.heap.size)):Below w.heap.size w w':=
 ((ah w.heap.size w).alloc (ag _) o).grown h (by simp) (fun k hk=>by cases hk;exact ag _)
theorem yp {w:World} {ao:Option Addr} {len cap:Nat} (h:ArgI w ao len cap):Ch w.heap.size ao (min len 400) cap (w.alloc (.cells #[.slice ao (min len 400) cap,.int .i64 0] 95)):=by
 refine ⟨⟨0,aE _,heap_alloc_new w _⟩,by omega,fun hn=>?_⟩;obtain ⟨b,off,e,hb,hx⟩:=h.rd (by have:=h.le;omega);refine ⟨b,off,e,hb,fun t ht=>?_⟩;obtain ⟨x,hx⟩:=hx t (by omega);exact ⟨x,(World.cell?_alloc_past _ _ _ hb).trans hx⟩
def Wth (ts:List Nd):Prop:=∃(t0:List Nd) (s:Int),Tm vs8 7 418 t0 s∧(ts=t0∨(s=2∧ts=⟨5,2,⟨#[102]⟩,⟨#[]⟩,1⟩::t0)∨(s=1∧∃q:Rat,DS 26 q∧ts=⟨5,1,⟨#[103]⟩,⟨#[]⟩,2⟩::(t0++[dI 3 q]))∨(s=4∧ts=⟨5,4,⟨#[104]⟩,⟨#[]⟩,1⟩::t0))
def z8 (w:World) (e:Ending) (w':World):Prop:=∃g c ts,e=.returned (.slice (some ⟨g,0,none⟩) ts.length (ts.length+c))∧NodesAt w' g ts∧g<w'.heap.size∧Wth ts∧Below w.heap.size w w'
section
theorem xg (al:Option Addr) (ll cl:Nat) (w:World) (h:ArgI w al ll cl):Calls Tryz.prog 8 #[.slice al ll cl] w (z8 w):=by
 have hch0:=yp h;have hn:=xK al ll cl w h;have hCw:w.heap.size=w.heap.size:=rfl
 go_enter Tryz.func8,Tryz.ntmps8
 go_wp2_with fail
 refine hn.mono ?_;rintro e w1 ⟨rfl,rfl⟩;generalize hC:w.heap.size=C at *;have HC:=hid hC;obtain ⟨nn,hnn⟩:∃nn,min ll 400=nn:=⟨_,rfl⟩
 rw[hnn] at hch0 ⊢;clear hCw;have HB0:Hid (∀w',(w.alloc (.cells #[.slice al (min ll 400) cl,.int .i64 0] 95)).grownBy w' (some C)→Below w.heap.size w w'):=hid fun w' hg=>by rw[←hC] at hg;exact xf hg
 rw[hnn] at HB0;generalize w.alloc (.cells #[.slice al nn cl,.int .i64 0] 95)=w1 at *;clear hn h
 go_wp2_with fail
 refine (bc C al nn cl w1 4 (by omega) (by omega) hch0).mono ?_;rintro e w2 ⟨r,hr,rfl,hch2,hg2,-⟩;obtain ⟨y,hy⟩:∃y:Int,1+(r:Int)=y:=⟨_,rfl⟩
 have hy1:1≤y:=by omega
 have hy4:y≤4:=by omega
 go_wp2_with fail
 refine (xa w2).mono ?_;rintro e w3 ⟨rfl,hv3,hl3,hb3⟩;have hgx:GX C al nn cl w2.heap.size w3 w3:=GX.start (hch2.call hb3) hv3 hl3 (by have:=hch2.lt;omega);have HG3:=hid (aZ hg2 hb3);clear hv3 hb3 hg2 hch0 hch2 hr
 go_wp2_with fail
 refine ((zu C al nn cl w2.heap.size 8).1 y w3 hy1 hy4 hgx).mono ?_;rintro e w4 ⟨g,d,ts,rfl,k1,k2,k3,kt,kc,kg⟩;have HG4:=hid (grown_trans HG3.out kg);have hCg:C<g:=ap hgx.ch.lt k3;obtain ⟨c,hc⟩:∃c,ts.length+d=c:=⟨_,rfl⟩
 obtain ⟨l,hl⟩:∃l,ts.length=l:=⟨_,rfl⟩
 rw[hc,hl];have HCC:=hid hc;clear hc;have HL:=hid hl;clear hgx HG3 k3 hy hl hl3
 go_wp2_with fail
 refine (bc C al nn cl w4 4 (by omega) (by omega) kc).mono ?_;rintro e w5 ⟨r2,hr2,rfl,hc5,hg5,-⟩;have n5:=k1.grown hg5 k2 (by omega);have l5:=ap k2 hg5.size;have HG5:=hid (grown_trans HG4.out hg5);have HT:=hid kt;have hso:=jS vs8 7 ts y g c w5 kt.wt (by decide) (aC kt.le (by decide)) kt.nm (fun z hz=>aC (kt.sh z hz) (by decide)) n5 l5;rw[HL.out] at hso;have HN5:=hid n5;clear k1 k2 kt kc kg hg5 n5 HG4;have hr4:r2=0∨r2=1∨r2=2∨r2=3:=by omega
 clear hr2;rcases hr4 with rfl | rfl | rfl | rfl
 · go_wp2_with fail
   refine hso.mono ?_;rintro e w6 ⟨rfl,hb6⟩;have HN6:=hid (HN5.out.below hb6 l5);have l6:=ap l5 hb6.size;have HG6:=hid (aZ HG5.out hb6);have hc6:=hc5.call hb6;clear hb6 hc5 HG5 HN5 l5
   by_cases hys:y=2
   · subst hys;have hA:=aD w6 (.cells #[.slice (some ⟨g,0,none⟩) l c] 22);have hk:=uO (t1:=ts) (heap_alloc_new w6 (.cells #[.slice (some ⟨g,0,none⟩) ts.length c] 22));rw[HL.out] at hk;replace hk:=hk (HN6.out.below hA l6) (ap l6 hA.size);have hj:=jT ⟨5,2,⟨#[102]⟩,⟨#[]⟩,0⟩ (some ⟨w6.heap.size,0,none⟩) w6.heap.size 1 [ts] _ hk (by have:=HT.out.le;simp;omega) (by simp);unfold Nd.val at hj;simp only at hj;have HG7:=hid (aZ HG6.out hA);clear hA hk
     go_wp2_with fail
     refine hj.mono ?_;rintro e w8 ⟨g8,c8,rfl,m1,m2,m3,m4⟩;have HG8:=hid (aZ HG7.out m4);have hfl:[ts].flatten=ts:=by simp
     rw[hfl] at m1 ⊢;have HM:=hid m1;rw[HL.out];clear m1 m4 hj HG7
     go_wp2
     go_ret
     exact ⟨g8,c8,_,by rw[au,HL.out,Nat.add_comm 1];rfl,HM.out,m2,⟨ts,2,HT.out,.inr (.inl ⟨rfl,rfl⟩)⟩,HB0.out w8 HG8.out⟩
   · have hyf:(y==2)=false:=by simp[hys]
     go_wp2
     go_ret
     exact ⟨g,d,ts,by rw[HCC.out,HL.out];rfl,HN6.out,l6,⟨ts,y,HT.out,.inl rfl⟩,HB0.out w6 HG6.out⟩
 · go_wp2_with fail
   refine hso.mono ?_;rintro e w6 ⟨rfl,hb6⟩;have HN6:=hid (HN5.out.below hb6 l5);have l6:=ap l5 hb6.size;have HG6:=hid (aZ HG5.out hb6);have hc6:=hc5.call hb6;clear hb6 hc5 HG5 HN5 l5
   by_cases hys:y=1
   · subst hys
     go_wp2_with fail
     refine (mb C al nn cl w6 hc6).mono ?_;rintro e w7 ⟨q,hq,rfl,hc7,hg7⟩;have HN7:=hid (HN6.out.grown hg7 l6 (by omega));have l7:=ap l6 hg7.size;have HG7:=hid (grown_trans HG6.out hg7);have HQ:=hid hq;clear hc6 hc7 hg7 HN6 l6 HG6 hq;obtain ⟨tq,htq⟩:∃tq,TX q=tq:=⟨_,rfl⟩
     rw[htq];have HTQ:=hid htq;clear htq
     go_wp2_with fail
     refine (dz 3 tq w7).mono ?_;rintro e w9 ⟨g9,rfl,p1,p2,p3,p4⟩;have HN9:=hid (HN7.out.below p4 l7);have l9:=ap l7 p4.size;have HG9:=hid (aZ HG7.out p4);have hA:=aD w9 (.cells #[.slice (some ⟨g,0,none⟩) l c,.slice (some ⟨g9,0,none⟩) 1 1] 22);have hk:=zo (t1:=ts) (t2:=[⟨3,3,⟨#[]⟩,tq,0⟩]) (heap_alloc_new w9 (.cells #[.slice (some ⟨g,0,none⟩) ts.length c,.slice (some ⟨g9,0,none⟩) 1 1] 22));rw[HL.out] at hk;replace hk:=hk (HN9.out.below hA l9) (ap l9 hA.size) (p1.below hA p2) (ap p2 hA.size);have hj:=jT ⟨5,1,⟨#[103]⟩,⟨#[]⟩,0⟩ (some ⟨w9.heap.size,0,none⟩) w9.heap.size 2 [ts,[⟨3,3,⟨#[]⟩,tq,0⟩]] _ hk (by have:=HT.out.le;simp;omega) (by simp);unfold Nd.val at hj;simp only at hj;have HG10:=hid (aZ HG9.out hA);clear hA hk p1 p2 p3 p4 HN9 HN7
     go_wp2_with fail
     refine hj.mono ?_;rintro e w8 ⟨g8,c8,rfl,m1,m2,m3,m4⟩;have HG8:=hid (aZ HG10.out m4);have hfl:[ts,[(⟨3,3,⟨#[]⟩,tq,0⟩:Nd)]].flatten=ts++[⟨3,3,⟨#[]⟩,tq,0⟩]:=by simp
     rw[hfl] at m1 ⊢;have HM:=hid m1;rw[aA,HL.out];clear m1 m4 hj HG10
     go_wp2
     go_ret
     exact ⟨g8,c8,_,by rw[au,aA,HL.out,Nat.add_comm 1];rfl,HM.out,m2,⟨ts,1,HT.out,.inr (.inr (.inl ⟨rfl,q,HQ.out,by unfold dI;rw[HTQ.out];rfl⟩))⟩,HB0.out w8 HG8.out⟩
   · have hyf:(y==1)=false:=by simp[hys]
     go_wp2
     go_ret
     exact ⟨g,d,ts,by rw[HCC.out,HL.out];rfl,HN6.out,l6,⟨ts,y,HT.out,.inl rfl⟩,HB0.out w6 HG6.out⟩
 · go_wp2_with fail
   refine hso.mono ?_;rintro e w6 ⟨rfl,hb6⟩;have HN6:=hid (HN5.out.below hb6 l5);have l6:=ap l5 hb6.size;have HG6:=hid (aZ HG5.out hb6);have hc6:=hc5.call hb6;clear hb6 hc5 HG5 HN5 l5
   by_cases hys:y=4
   · subst hys;have hA:=aD w6 (.cells #[.slice (some ⟨g,0,none⟩) l c] 22);have hk:=uO (t1:=ts) (heap_alloc_new w6 (.cells #[.slice (some ⟨g,0,none⟩) ts.length c] 22));rw[HL.out] at hk;replace hk:=hk (HN6.out.below hA l6) (ap l6 hA.size);have hj:=jT ⟨5,4,⟨#[104]⟩,⟨#[]⟩,0⟩ (some ⟨w6.heap.size,0,none⟩) w6.heap.size 1 [ts] _ hk (by have:=HT.out.le;simp;omega) (by simp);unfold Nd.val at hj;simp only at hj;have HG7:=hid (aZ HG6.out hA);clear hA hk
     go_wp2_with fail
     refine hj.mono ?_;rintro e w8 ⟨g8,c8,rfl,m1,m2,m3,m4⟩;have HG8:=hid (aZ HG7.out m4);have hfl:[ts].flatten=ts:=by simp
     rw[hfl] at m1 ⊢;have HM:=hid m1;rw[HL.out];clear m1 m4 hj HG7
     go_wp2
     go_ret
     exact ⟨g8,c8,_,by rw[au,HL.out,Nat.add_comm 1];rfl,HM.out,m2,⟨ts,4,HT.out,.inr (.inr (.inr ⟨rfl,rfl⟩))⟩,HB0.out w8 HG8.out⟩
   · have hyf:(y==4)=false:=by simp[hys]
     go_wp2
     go_ret
     exact ⟨g,d,ts,by rw[HCC.out,HL.out];rfl,HN6.out,l6,⟨ts,y,HT.out,.inl rfl⟩,HB0.out w6 HG6.out⟩
 · clear hso
   go_wp2
   go_ret
   exact ⟨g,d,ts,by rw[HCC.out,HL.out];rfl,HN5.out,l5,⟨ts,y,HT.out,.inl rfl⟩,HB0.out w5 HG5.out⟩
end
end Go.Proofs.YtapdbeaoakcjeaaGreatDoor.Se
/- The reference's cmp and cmpText. -/
namespace Go.Proofs.YtapdbeaoakcjeaaGreatDoor.Se
open Go.RowKit Nmx
def cmpI (a b:Int):Int:=if a<b then -1 else if b<a then 1 else 0
def jV (a b:ByteArray):Int:=if Op.bytesLess a.toList b.toList then -1 else if a.toList==b.toList then 0 else 1
def bF:List Int→Int
 | []=>0
 | c::l=>if c=0 then bF l else c
def gJ (x y:Nd):Int:=bF [cmpI x.op y.op,cmpI x.sort y.sort,jV x.name y.name,jV x.num y.num,cmpI x.kids y.kids]
def dA:List Nd→List Nd→Int
 | [],[]=>0
 | [],_::_=>-1
 | _::_,[]=>1
 | x::a,y::b=>if gJ x y=0 then dA a b else gJ x y
section
theorem ii (a b:Int) (w:World):Calls Tryz.prog 35 #[.int .i64 a,.int .i64 b] w fun e w'=>e=.returned (.int .i64 (cmpI a b))∧w'=w:=by
 by_cases h1:a<b
 · have HN:Hid (cmpI a b= -1):=hid (by unfold cmpI;rw[if_pos h1])
   go_enter Tryz.func35,Tryz.ntmps35
   go_wp2
   go_ret
   exact ⟨by rw[HN.out];rfl,rfl⟩
 · by_cases h2:b<a
   · have HN:Hid (cmpI a b=1):=hid (by unfold cmpI;rw[if_neg h1,if_pos h2])
     go_enter Tryz.func35,Tryz.ntmps35
     go_wp2
     go_ret
     exact ⟨by rw[HN.out];rfl,rfl⟩
   · have HN:Hid (cmpI a b=0):=hid (by unfold cmpI;rw[if_neg h1,if_neg h2])
     go_enter Tryz.func35,Tryz.ntmps35
     go_wp2
     go_ret
     exact ⟨by rw[HN.out];rfl,rfl⟩
theorem kO (a b:ByteArray) (w:World):Calls Tryz.prog 36 #[.string a,.string b] w fun e w'=>e=.returned (.int .i64 (jV a b))∧w'=w:=by
 cases h1:Op.bytesLess a.toList b.toList
 · cases h2:(a.toList==b.toList)
   · have HN:Hid (jV a b=1):=hid (by unfold jV;rw[h1,h2];rfl)
     go_enter Tryz.func36,Tryz.ntmps36
     go_wp2
     go_ret
     exact ⟨by rw[HN.out];rfl,rfl⟩
   · have HN:Hid (jV a b=0):=hid (by unfold jV;rw[h1,h2];rfl)
     go_enter Tryz.func36,Tryz.ntmps36
     go_wp2
     go_ret
     exact ⟨by rw[HN.out];rfl,rfl⟩
 · have HN:Hid (jV a b= -1):=hid (by unfold jV;rw[h1];rfl)
   go_enter Tryz.func36,Tryz.ntmps36
   go_wp2
   go_ret
   exact ⟨by rw[HN.out];rfl,rfl⟩
end
end Go.Proofs.YtapdbeaoakcjeaaGreatDoor.Se
/- The reference's Compare: the copies of two nodes. -/
namespace Go.Proofs.YtapdbeaoakcjeaaGreatDoor.Se
open Go.RowKit Nmx
def NodesO (w:World) (ao:Option Addr) (ts:List Nd):Prop:=ts.length≠0→∃g off,ao=some ⟨g,off,none⟩∧g<w.heap.size∧∀i x,ts[i]? =some x→∀j,j<5→w.cell? ⟨g,off+i*5+j,none⟩=x.cells[j]?
theorem NodesO.below {w w':World} {B:Nat} {ao:Option Addr} {ts:List Nd} (h:NodesO w ao ts) (hb:Below B w w') (hB:w.heap.size≤B):NodesO w' ao ts:=fun hn=>
 let ⟨g,off,e,hl,hc⟩:=h hn;⟨g,off,e,ap hl hb.size,fun i x hx j hj=>(hb.cell (p:=⟨g,off+i*5+j,none⟩) (by show g<B;omega)).trans (hc i x hx j hj)⟩
theorem NodesAt.o {w:World} {g:Nat} {ts:List Nd} (h:NodesAt w g ts) (hg:g<w.heap.size):NodesO w (some ⟨g,0,none⟩) ts:=fun _=>⟨g,0,rfl,hg,fun i x hx j hj=>by rw[Nat.zero_add];exact h i x hx j hj⟩
structure CN (S g1 o1 g2 o2:Nat) (op1 sort1 kids1 op2 sort2 kids2:Int) (name1 num1 name2 num2:ByteArray) (w W:World):Prop where
 a0:W.cell? ⟨g1,o1,none⟩=some (.int .i64 op1)
 a1:W.cell? ⟨g1,o1+1,none⟩=some (.int .i64 sort1)
 a2:W.cell? ⟨g1,o1+2,none⟩=some (.string name1)
 a3:W.cell? ⟨g1,o1+3,none⟩=some (.string num1)
 a4:W.cell? ⟨g1,o1+4,none⟩=some (.int .i64 kids1)
 b0:W.cell? ⟨g2,o2,none⟩=some (.int .i64 op2)
 b1:W.cell? ⟨g2,o2+1,none⟩=some (.int .i64 sort2)
 b2:W.cell? ⟨g2,o2+2,none⟩=some (.string name2)
 b3:W.cell? ⟨g2,o2+3,none⟩=some (.string num2)
 b4:W.cell? ⟨g2,o2+4,none⟩=some (.int .i64 kids2)
 l1:g1<S
 l2:g2<S
 ls:S≤W.heap.size
 bel:Below S w W
theorem CN.keep {S g1 o1 g2 o2:Nat} {op1 sort1 kids1 op2 sort2 kids2:Int} {name1 num1 name2 num2:ByteArray} {w W W':World} (h:CN S g1 o1 g2 o2 op1 sort1 kids1 op2 sort2 kids2 name1 num1 name2 num2 w W) (hb:Below S W W'):CN S g1 o1 g2 o2 op1 sort1 kids1 op2 sort2 kids2 name1 num1 name2 num2 w W':=
 ⟨(hb.cell (p:=⟨g1,o1,none⟩) h.l1).trans h.a0,(hb.cell (p:=⟨g1,o1+1,none⟩) h.l1).trans h.a1,(hb.cell (p:=⟨g1,o1+2,none⟩) h.l1).trans h.a2,(hb.cell (p:=⟨g1,o1+3,none⟩) h.l1).trans h.a3,(hb.cell (p:=⟨g1,o1+4,none⟩) h.l1).trans h.a4,
  (hb.cell (p:=⟨g2,o2,none⟩) h.l2).trans h.b0,(hb.cell (p:=⟨g2,o2+1,none⟩) h.l2).trans h.b1,(hb.cell (p:=⟨g2,o2+2,none⟩) h.l2).trans h.b2,(hb.cell (p:=⟨g2,o2+3,none⟩) h.l2).trans h.b3,(hb.cell (p:=⟨g2,o2+4,none⟩) h.l2).trans h.b4,h.l1,h.l2,aC h.ls hb.size,h.bel.trans hb⟩
theorem i7 {S B:Nat} {w W:World} (h:Below S w W) (hB:S≤B) (v0 v1 v2 v3 v4:Value):Below S w (((((W.setCell ⟨B,0,none⟩ v0).setCell ⟨B,1,none⟩ v1).setCell ⟨B,2,none⟩ v2).setCell ⟨B,3,none⟩ v3).setCell ⟨B,4,none⟩ v4):=
 ((((h.setCell (p:=⟨B,0,none⟩) hB _).setCell (p:=⟨B,1,none⟩) hB _).setCell (p:=⟨B,2,none⟩) hB _).setCell (p:=⟨B,3,none⟩) hB _).setCell (p:=⟨B,4,none⟩) hB _
theorem mE {B B':Nat} {W:World} {ob:Obj} (h:W.heap[B']? =some ob) (hB:B'≠B) (v0 v1 v2 v3 v4:Value):(((((W.setCell ⟨B,0,none⟩ v0).setCell ⟨B,1,none⟩ v1).setCell ⟨B,2,none⟩ v2).setCell ⟨B,3,none⟩ v3).setCell ⟨B,4,none⟩ v4).heap[B']? =some ob:=by
 rw[aB _ _ _ _ hB,aB _ _ _ _ hB,aB _ _ _ _ hB,aB _ _ _ _ hB,aB _ _ _ _ hB];exact h
theorem kz {B:Nat} {W:World} {u0 u1 u2 u3 u4:Value} {t:TypeId} {fr:Nat×Nat} (h:W.heap[B]? =some (.cells #[u0,u1,u2,u3,u4] t fr)) (v0 v1 v2 v3 v4:Value):(((((W.setCell ⟨B,0,none⟩ v0).setCell ⟨B,1,none⟩ v1).setCell ⟨B,2,none⟩ v2).setCell ⟨B,3,none⟩ v3).setCell ⟨B,4,none⟩ v4).heap[B]? =some (.cells #[v0,v1,v2,v3,v4] t fr):=
 heap_set (heap_set (heap_set (heap_set (heap_set h 0 v0) 1 v1) 2 v2) 3 v3) 4 v4
end Go.Proofs.YtapdbeaoakcjeaaGreatDoor.Se
/- The reference's Compare at any two lists of nodes. -/
namespace Go.Proofs.YtapdbeaoakcjeaaGreatDoor.Se
open Go.RowKit Nmx
theorem zv (b:List Nd):dA [] b=cmpI 0 b.length:=by
 cases b with
 | nil=>rfl
 | cons y b=>show (-1:Int)=cmpI 0 ((b.length+1:Nat):Int);unfold cmpI;rw[if_pos (by omega)]
theorem yq (a:List Nd):dA a []=cmpI a.length 0:=by
 cases a with
 | nil=>rfl
 | cons y b=>show (1:Int)=cmpI ((b.length+1:Nat):Int) 0;unfold cmpI;rw[if_neg (by omega),if_pos (by omega)]
section
theorem mF (ax bx:Option Addr) (c1 c2:Nat) (ta tb:List Nd) (w:World) (ha:NodesO w ax ta) (hb:NodesO w bx tb) (hla:ta.length≤1000000) (hlb:tb.length≤1000000):
    Calls Tryz.prog 10 #[.slice ax ta.length c1,.slice bx tb.length c2] w fun e w'=>e=.returned (.int .i64 (dA ta tb))∧Below w.heap.size w w':=by
 have HA:=hid ha;have HB:=hid hb;obtain ⟨n1,hn1⟩:∃n,ta.length=n:=⟨_,rfl⟩
 obtain ⟨n2,hn2⟩:∃n,tb.length=n:=⟨_,rfl⟩
 have HN1:=hid hn1;have HN2:=hid hn2;rw[hn1] at hla ⊢;rw[hn2] at hlb ⊢;clear ha hb hn1 hn2;generalize hS:w.heap.size=S at *;have HS:=hid hS
 go_enter Tryz.func10,Tryz.ntmps10
 go_wp2
 go_loopw [5] (fun i wr=>∃k:Nat,k≤n1∧k≤n2∧i=.int .i64 k∧dA ta tb=dA (ta.drop k) (tb.drop k)∧Below S w wr) (fun i _=>n1-(intOf i).toNat)
 case atStart=>exact ⟨0,aE _,aE _,rfl,rfl,ah _ _⟩
 case round=>
  obtain ⟨k,hk1,hk2,rfl,hts,hbel⟩:=hrel;have HT:=hid hts;have HBL:=hid hbel;have hsw:S≤wr.heap.size:=by have:=hbel.size;omega
  clear hts hbel
  by_cases h1:k<n1
  · have h1I:(k:Int)<(n1:Int):=by omega
    by_cases h2:k<n2
    · have h2I:(k:Int)<(n2:Int):=by omega
      have hk1l:k<ta.length:=by rw[HN1.out];exact h1
      have hk2l:k<tb.length:=by rw[HN2.out];exact h2
      obtain ⟨g1,off1,rfl,hl1,hc1⟩:=HA.out (by omega);obtain ⟨g2,off2,rfl,hl2,hc2⟩:=HB.out (by omega);have hx:=hc1 k ta[k] (aq hk1l);have hy:=hc2 k tb[k] (aq hk2l)
      have hst:dA (ta.drop k) (tb.drop k)=if gJ ta[k] tb[k]=0 then dA (ta.drop (k+1)) (tb.drop (k+1)) else gJ ta[k] tb[k]:=by
       rw[List.drop_eq_getElem_cons hk1l,List.drop_eq_getElem_cons hk2l];rfl
      generalize ta[k]=x1 at *;generalize tb[k]=x2 at *;obtain ⟨op1,sort1,name1,num1,kids1⟩:=x1;obtain ⟨op2,sort2,name2,num2,kids2⟩:=x2;have hl1':g1<S:=by have:=HS.out;omega
      have hl2':g2<S:=by have:=HS.out;omega
      have HC:Hid (CN S g1 (off1+k*5) g2 (off2+k*5) op1 sort1 kids1 op2 sort2 kids2 name1 num1 name2 num2 w wr):=hid
       ⟨(HBL.out.cell (p:=⟨g1,off1+k*5,none⟩) hl1').trans (hx 0 (by decide)),(HBL.out.cell (p:=⟨g1,off1+k*5+1,none⟩) hl1').trans (hx 1 (by decide)),(HBL.out.cell (p:=⟨g1,off1+k*5+2,none⟩) hl1').trans (hx 2 (by decide)),(HBL.out.cell (p:=⟨g1,off1+k*5+3,none⟩) hl1').trans (hx 3 (by decide)),(HBL.out.cell (p:=⟨g1,off1+k*5+4,none⟩) hl1').trans (hx 4 (by decide)),
        (HBL.out.cell (p:=⟨g2,off2+k*5,none⟩) hl2').trans (hy 0 (by decide)),(HBL.out.cell (p:=⟨g2,off2+k*5+1,none⟩) hl2').trans (hy 1 (by decide)),(HBL.out.cell (p:=⟨g2,off2+k*5+2,none⟩) hl2').trans (hy 2 (by decide)),(HBL.out.cell (p:=⟨g2,off2+k*5+3,none⟩) hl2').trans (hy 3 (by decide)),(HBL.out.cell (p:=⟨g2,off2+k*5+4,none⟩) hl2').trans (hy 4 (by decide)),hl1',hl2',hsw,HBL.out⟩
      have HST:=hid hst;clear hx hy hst hc1 hc2 hl1 hl2 HBL hS
      go_upto_region 4 with fail
      refine aV [[],[],[0,1],[0,1,2],[],[],[4,5],[4,5,6],[],[],[0,1,2,3,8,9],[0,1,2,3,4,5,6,7,8,9,10]] (fun W=>CN S g1 (off1+k*5) g2 (off2+k*5) op1 sort1 kids1 op2 sort2 kids2 name1 num1 name2 num2 w W) (fun W=>CN S g1 (off1+k*5) g2 (off2+k*5) op1 sort1 kids1 op2 sort2 kids2 name1 num1 name2 num2 w W) ?_
      iterate 4
       apply aR
       · intro x;go_simp;done
       · intro x W R hW hF hR;obtain ⟨a0,a1,a2,a3,a4,b0,b1,b2,b3,b4,-,-,-,-⟩:=hW;clear hF;unfold aN
         go_simp
         simp only[aF];exact hR _ (ah _ _)
       simp only[Act.put,aa,aj,am]
      iterate 4
       apply gN
       · intro x;go_simp;done
       · intro x W R hW hF hR;obtain ⟨a0,a1,a2,a3,a4,b0,b1,b2,b3,b4,-,-,-,-⟩:=hW;clear hF;unfold aN
         go_simp
         simp only[aF];exact hR _ (ah _ _)
       simp only[Act.put,aa,aj,am]
      refine uY (fun B W=>W.heap[B]? =some (.cells #[.int .i64 0,.int .i64 0,.string ⟨#[]⟩,.string ⟨#[]⟩,.int .i64 0] 34 (0,0))∧S≤B) (fun _ _ _ h hb=>⟨(hb.block _ (ay h.1)).trans h.1,h.2⟩) ?_ ?_ ?_
      · intro x;go_simp;done
      · intro x W R hW hF hR;clear hF;unfold aN
        go_simp
        simp only[aF];exact hR _ ⟨heap_alloc_new W _,hW.ls⟩ (aD W _) (by simp)
      simp only[Act.put,aa,aj,am,au,aH,Nat.zero_add,Nat.reduceAdd];refine uY (fun B W=>W.heap[B]? =some (.cells #[.int .i64 0,.int .i64 0,.string ⟨#[]⟩,.string ⟨#[]⟩,.int .i64 0] 34 (0,0))∧S≤B) (fun _ _ _ h hb=>⟨(hb.block _ (ay h.1)).trans h.1,h.2⟩) ?_ ?_ ?_
      · intro x;go_simp;done
      · intro x W R hW hF hR;clear hF;unfold aN
        go_simp
        simp only[aF];exact hR _ ⟨heap_alloc_new W _,hW.ls⟩ (aD W _) (by simp)
      simp only[Act.put,aa,aj,am,au,aH,Nat.zero_add,Nat.reduceAdd];refine fG (fun x W=>∃B6 B7,x 8=.pointer (some ⟨B6,0,none⟩)∧x 9=.pointer (some ⟨B7,0,none⟩)∧B6≠B7∧S≤B6∧S≤B7∧W.heap[B6]? =some (.cells #[.int .i64 op1,.int .i64 sort1,.string name1,.string num1,.int .i64 kids1] 34 (0,0))∧W.heap[B7]? =some (.cells #[.int .i64 0,.int .i64 0,.string ⟨#[]⟩,.string ⟨#[]⟩,.int .i64 0] 34 (0,0))∧CN S g1 (off1+k*5) g2 (off2+k*5) op1 sort1 kids1 op2 sort2 kids2 name1 num1 name2 num2 w W) (fun _ _ _ h hb=>let ⟨B6,B7,h1,h2,h3,h4,h5,h6,h7,h8⟩:=h;⟨B6,B7,h1,h2,h3,h4,h5,(hb.block _ (ay h6)).trans h6,(hb.block _ (ay h7)).trans h7,h8.keep (hb.mono h8.ls)⟩) (fun x x' w h hT=>by have e8:=h 8 (.inr (List.contains_iff_mem.1 rfl));have e9:=h 9 (.inr (List.contains_iff_mem.1 rfl));rw[e8,e9] at hT;exact hT) ?_ ?_ ?_
      · intro x;go_simp;done
      · intro x W R hW hF hD hR;obtain ⟨B7,hx9,h7,s7⟩:=hF.1.2 rfl rfl rfl;obtain ⟨B6,hx8,h6,s6⟩:=hF.2.1.2 rfl rfl rfl;have hx9':x 9=.pointer (some ⟨B7,0,none⟩):=hx9;have hx8':x 8=.pointer (some ⟨B6,0,none⟩):=hx8;have hne:B6≠B7:=fun e=>hD 8 9 (List.contains_iff_mem.1 rfl) (List.contains_iff_mem.1 rfl) (by decide) rfl rfl (by rw[hx8',hx9',e])
        clear hF hD hx8 hx9;simp only[hx8'];have f0:=ac h6 0;have fz0:=aM h6 0;have f1:=ac h6 1;have fz1:=aM h6 1;have f2:=ac h6 2;have fz2:=aM h6 2;have f3:=ac h6 3;have fz3:=aM h6 3;have f4:=ac h6 4;have fz4:=aM h6 4;have hW2:=hW.keep (i7 (ah S W) s6 (.int .i64 op1) (.int .i64 sort1) (.string name1) (.string num1) (.int .i64 kids1));have h62:=kz h6 (.int .i64 op1) (.int .i64 sort1) (.string name1) (.string num1) (.int .i64 kids1);have h72:=mE h7 (Ne.symm hne) (.int .i64 op1) (.int .i64 sort1) (.string name1) (.string num1) (.int .i64 kids1);unfold aN
        go_simp
        simp only[aF];refine hR _ _ ?_ hW2 (by simp[World.setCell]);refine ⟨B6,B7,?_,?_,hne,s6,s7,h62,h72,hW2⟩
        · show bM x 10 _ 8=_;rw[bC (i:=10) (j:=8) _ _ (by decide),hx8']
        · show bM x 10 _ 9=_;rw[bC (i:=10) (j:=9) _ _ (by decide),hx9']
      simp only[Act.put];refine qW (fun x W=>∃B6 B7,x 8=.pointer (some ⟨B6,0,none⟩)∧x 9=.pointer (some ⟨B7,0,none⟩)∧B6≠B7∧S≤B6∧S≤B7∧W.heap[B6]? =some (.cells #[.int .i64 op1,.int .i64 sort1,.string name1,.string num1,.int .i64 kids1] 34 (0,0))∧W.heap[B7]? =some (.cells #[.int .i64 op2,.int .i64 sort2,.string name2,.string num2,.int .i64 kids2] 34 (0,0))∧CN S g1 (off1+k*5) g2 (off2+k*5) op1 sort1 kids1 op2 sort2 kids2 name1 num1 name2 num2 w W) (fun _ _ _ h hb=>let ⟨B6,B7,h1,h2,h3,h4,h5,h6,h7,h8⟩:=h;⟨B6,B7,h1,h2,h3,h4,h5,(hb.block _ (ay h6)).trans h6,(hb.block _ (ay h7)).trans h7,h8.keep (hb.mono h8.ls)⟩) (fun x x' w h hT=>by have e8:=h 8 (.inr (List.contains_iff_mem.1 rfl));have e9:=h 9 (.inr (List.contains_iff_mem.1 rfl));rw[e8,e9] at hT;exact hT) ?_ ?_ ?_
      · intro x;go_simp;done
      · intro x W R hW hF hD hR;obtain ⟨B6,B7,hx8',hx9',hne,s6,s7,h6,h7,hcn⟩:=hF.1.2 rfl rfl rfl;clear hF hD;simp only[hx9'];have f0:=ac h7 0;have fz0:=aM h7 0;have f1:=ac h7 1;have fz1:=aM h7 1;have f2:=ac h7 2;have fz2:=aM h7 2;have f3:=ac h7 3;have fz3:=aM h7 3;have f4:=ac h7 4;have fz4:=aM h7 4;have hW2:=hcn.keep (i7 (ah S W) s7 (.int .i64 op2) (.int .i64 sort2) (.string name2) (.string num2) (.int .i64 kids2));have h72:=kz h7 (.int .i64 op2) (.int .i64 sort2) (.string name2) (.string num2) (.int .i64 kids2);have h62:=mE h6 hne (.int .i64 op2) (.int .i64 sort2) (.string name2) (.string num2) (.int .i64 kids2);unfold aN
        go_simp
        simp only[aF];refine hR _ _ ?_ hW2 (by simp[World.setCell]);refine ⟨B6,B7,?_,?_,hne,s6,s7,h62,h72,hW2⟩
        · show bM x 11 _ 8=_;rw[bC (i:=11) (j:=8) _ _ (by decide),hx8']
        · show bM x 11 _ 9=_;rw[bC (i:=11) (j:=9) _ _ (by decide),hx9']
      simp only[Act.put];refine cz (by kernel_rfl) (by kernel_rfl) (by kernel_rfl) (fun _ _ h hb=>h.keep (hb.mono h.ls)) (fun _ _ h hb=>h.keep (hb.mono h.ls)) (fun _ h=>h) (HC.out.keep (ah S wr).drew) ?_;intro x W hE hW hF hD;clear hD;obtain ⟨B6,B7,hx8,hx9,hne,s6,s7,h6,h7,hcn⟩:=hF.1.2 rfl;have H6:=hid h6;have H7:=hid h7;have hls:=hcn.ls;have HB4:=hid hcn.bel;clear hF hW hne h6 h7 hcn;simp only[hx8,hx9];clear hx8 hx9;have HK0:=fun W:World=>ii op1 op2 W
      have HK1:=fun W:World=>ii sort1 sort2 W
      have HK2:=fun W:World=>kO name1 name2 W
      have HK3:=fun W:World=>kO num1 num2 W
      have HK4:=fun W:World=>ii kids1 kids2 W
      have hnd:gJ ⟨op1,sort1,name1,num1,kids1⟩ ⟨op2,sort2,name2,num2,kids2⟩=bF [cmpI op1 op2,cmpI sort1 sort2,jV name1 name2,jV num1 num2,cmpI kids1 kids2]:=rfl;generalize cmpI op1 op2=k0 at *;generalize cmpI sort1 sort2=k1 at *;generalize jV name1 name2=k2 at *;generalize jV num1 num2=k3 at *;generalize cmpI kids1 kids2=k4 at *;have HND:=hid hnd;clear hnd;generalize W=w4 at *
      go_upto_region 5 with fail
      refine aV [[],[0],[],[2],[0,1,2,3],[],[5],[],[7],[0,1,2,3,4,5,6,7,8],[],[10],[],[12],[0,1,2,3,4,5,6,7,8,9,10,11,12,13],[],[15],[],[17],[0,1,2,3,4,5,6,7,8,9,10,11,12,13,14,15,16,17,18],[],[20],[],[22],[0,1,2,3,4,5,6,7,8,9,10,11,12,13,14,15,16,17,18,19,20,21,22,23],[0,1,2,3,4,5,6,7,8,9,10,11,12,13,14,15,16,17,18,19,20,21,22,23,24],[],[0,1,2,3,4,5,6,7,8,9,10,11,12,13,14,15,16,17,18,19,20,21,22,23,24,25,26]] (fun W=>W.heap[B6]? =some (.cells #[.int .i64 op1,.int .i64 sort1,.string name1,.string num1,.int .i64 kids1] 34 (0,0))∧W.heap[B7]? =some (.cells #[.int .i64 op2,.int .i64 sort2,.string name2,.string num2,.int .i64 kids2] 34 (0,0))∧S≤W.heap.size∧Below S w W) (fun _=>True) ?_
      iterate 4
       apply aR
       · intro x;go_simp;done
       · intro x W R hW hF hR;have p0:=ac hW.1 0;have q0:=ac hW.2.1 0;have p1:=ac hW.1 1;have q1:=ac hW.2.1 1;have p2:=ac hW.1 2;have q2:=ac hW.2.1 2;have p3:=ac hW.1 3;have q3:=ac hW.2.1 3;have p4:=ac hW.1 4;have q4:=ac hW.2.1 4;clear hF;unfold aN
         go_simp
         simp only[aF];exact hR _ (ah _ _)
       simp only[Act.put,aa,aj,am]
      apply aR
      · intro x;go_simp;done
      · intro x W R hW hF hR;have p0:=ac hW.1 0;have q0:=ac hW.2.1 0;have p1:=ac hW.1 1;have q1:=ac hW.2.1 1;have p2:=ac hW.1 2;have q2:=ac hW.2.1 2;have p3:=ac hW.1 3;have q3:=ac hW.2.1 3;have p4:=ac hW.1 4;have q4:=ac hW.2.1 4;clear hF;unfold aN
        go_simp
        simp only[aF];refine (HK0 W).mono ?_;rintro e w4 ⟨rfl,rfl⟩;exact ⟨_,rfl,hR _ (ah _ _)⟩
      simp only[Act.put,aa,aj,am]
      iterate 4
       apply aR
       · intro x;go_simp;done
       · intro x W R hW hF hR;have p0:=ac hW.1 0;have q0:=ac hW.2.1 0;have p1:=ac hW.1 1;have q1:=ac hW.2.1 1;have p2:=ac hW.1 2;have q2:=ac hW.2.1 2;have p3:=ac hW.1 3;have q3:=ac hW.2.1 3;have p4:=ac hW.1 4;have q4:=ac hW.2.1 4;clear hF;unfold aN
         go_simp
         simp only[aF];exact hR _ (ah _ _)
       simp only[Act.put,aa,aj,am]
      apply aR
      · intro x;go_simp;done
      · intro x W R hW hF hR;have p0:=ac hW.1 0;have q0:=ac hW.2.1 0;have p1:=ac hW.1 1;have q1:=ac hW.2.1 1;have p2:=ac hW.1 2;have q2:=ac hW.2.1 2;have p3:=ac hW.1 3;have q3:=ac hW.2.1 3;have p4:=ac hW.1 4;have q4:=ac hW.2.1 4;clear hF;unfold aN
        go_simp
        simp only[aF];refine (HK1 W).mono ?_;rintro e w4 ⟨rfl,rfl⟩;exact ⟨_,rfl,hR _ (ah _ _)⟩
      simp only[Act.put,aa,aj,am]
      iterate 4
       apply aR
       · intro x;go_simp;done
       · intro x W R hW hF hR;have p0:=ac hW.1 0;have q0:=ac hW.2.1 0;have p1:=ac hW.1 1;have q1:=ac hW.2.1 1;have p2:=ac hW.1 2;have q2:=ac hW.2.1 2;have p3:=ac hW.1 3;have q3:=ac hW.2.1 3;have p4:=ac hW.1 4;have q4:=ac hW.2.1 4;clear hF;unfold aN
         go_simp
         simp only[aF];exact hR _ (ah _ _)
       simp only[Act.put,aa,aj,am]
      apply aR
      · intro x;go_simp;done
      · intro x W R hW hF hR;have p0:=ac hW.1 0;have q0:=ac hW.2.1 0;have p1:=ac hW.1 1;have q1:=ac hW.2.1 1;have p2:=ac hW.1 2;have q2:=ac hW.2.1 2;have p3:=ac hW.1 3;have q3:=ac hW.2.1 3;have p4:=ac hW.1 4;have q4:=ac hW.2.1 4;clear hF;unfold aN
        go_simp
        simp only[aF];refine (HK2 W).mono ?_;rintro e w4 ⟨rfl,rfl⟩;exact ⟨_,rfl,hR _ (ah _ _)⟩
      simp only[Act.put,aa,aj,am]
      iterate 4
       apply aR
       · intro x;go_simp;done
       · intro x W R hW hF hR;have p0:=ac hW.1 0;have q0:=ac hW.2.1 0;have p1:=ac hW.1 1;have q1:=ac hW.2.1 1;have p2:=ac hW.1 2;have q2:=ac hW.2.1 2;have p3:=ac hW.1 3;have q3:=ac hW.2.1 3;have p4:=ac hW.1 4;have q4:=ac hW.2.1 4;clear hF;unfold aN
         go_simp
         simp only[aF];exact hR _ (ah _ _)
       simp only[Act.put,aa,aj,am]
      apply aR
      · intro x;go_simp;done
      · intro x W R hW hF hR;have p0:=ac hW.1 0;have q0:=ac hW.2.1 0;have p1:=ac hW.1 1;have q1:=ac hW.2.1 1;have p2:=ac hW.1 2;have q2:=ac hW.2.1 2;have p3:=ac hW.1 3;have q3:=ac hW.2.1 3;have p4:=ac hW.1 4;have q4:=ac hW.2.1 4;clear hF;unfold aN
        go_simp
        simp only[aF];refine (HK3 W).mono ?_;rintro e w4 ⟨rfl,rfl⟩;exact ⟨_,rfl,hR _ (ah _ _)⟩
      simp only[Act.put,aa,aj,am]
      iterate 4
       apply aR
       · intro x;go_simp;done
       · intro x W R hW hF hR;have p0:=ac hW.1 0;have q0:=ac hW.2.1 0;have p1:=ac hW.1 1;have q1:=ac hW.2.1 1;have p2:=ac hW.1 2;have q2:=ac hW.2.1 2;have p3:=ac hW.1 3;have q3:=ac hW.2.1 3;have p4:=ac hW.1 4;have q4:=ac hW.2.1 4;clear hF;unfold aN
         go_simp
         simp only[aF];exact hR _ (ah _ _)
       simp only[Act.put,aa,aj,am]
      apply aR
      · intro x;go_simp;done
      · intro x W R hW hF hR;have p0:=ac hW.1 0;have q0:=ac hW.2.1 0;have p1:=ac hW.1 1;have q1:=ac hW.2.1 1;have p2:=ac hW.1 2;have q2:=ac hW.2.1 2;have p3:=ac hW.1 3;have q3:=ac hW.2.1 3;have p4:=ac hW.1 4;have q4:=ac hW.2.1 4;clear hF;unfold aN
        go_simp
        simp only[aF];refine (HK4 W).mono ?_;rintro e w4 ⟨rfl,rfl⟩;exact ⟨_,rfl,hR _ (ah _ _)⟩
      simp only[Act.put,aa,aj,am];apply aR
      · intro x;go_simp;done
      · intro x W R hW hF hR;have p0:=ac hW.1 0;have q0:=ac hW.2.1 0;have p1:=ac hW.1 1;have q1:=ac hW.2.1 1;have p2:=ac hW.1 2;have q2:=ac hW.2.1 2;have p3:=ac hW.1 3;have q3:=ac hW.2.1 3;have p4:=ac hW.1 4;have q4:=ac hW.2.1 4;clear hF;unfold aN
        go_simp
        simp only[aF];exact hR _ (ah _ _)
      simp only[Act.put,aa,aj,am];refine uY (fun B W=>W.heap[B]? =some (.cells #[.int .i64 0,.int .i64 0,.int .i64 0,.int .i64 0,.int .i64 0] 62 (0,0))∧S≤B) (fun _ _ _ h hb=>⟨(hb.block _ (ay h.1)).trans h.1,h.2⟩) ?_ ?_ ?_
      · intro x;go_simp;done
      · intro x W R hW hF hR;clear hF;unfold aN
        go_simp
        simp only[aF];exact hR _ ⟨heap_alloc_new W _,hW.2.2.1⟩ (aD W _) (by simp)
      simp only[Act.put,aa,aj,am,au,aH,Nat.zero_add,Nat.reduceAdd];refine fG (fun x W=>∃B8,x 26=.pointer (some ⟨B8,0,none⟩)∧W.heap[B8]? =some (.cells #[.int .i64 k0,.int .i64 k1,.int .i64 k2,.int .i64 k3,.int .i64 k4] 62 (0,0))∧Below S w W∧S≤W.heap.size) (fun _ _ _ h hb=>let ⟨B8,h1,h2,h3,h4⟩:=h;⟨B8,h1,(hb.block _ (ay h2)).trans h2,h3.trans (hb.mono h4),aC h4 hb.size⟩) (fun x x' w h hT=>by have e8:=h 26 (.inr (List.contains_iff_mem.1 rfl));rw[e8] at hT;exact hT) ?_ ?_ ?_
      · intro x;go_simp;done
      · intro x W R hW hF hD hR;obtain ⟨B8,hx26,h8,s8⟩:=hF.1.2 rfl rfl rfl;have hx26':x 26=.pointer (some ⟨B8,0,none⟩):=hx26;clear hF hD hx26;simp only[hx26'];have f0:=ac h8 0;have fz0:=aM h8 0;have f1:=ac h8 1;have fz1:=aM h8 1;have f2:=ac h8 2;have fz2:=aM h8 2;have f3:=ac h8 3;have fz3:=aM h8 3;have f4:=ac h8 4;have fz4:=aM h8 4;have hW2:=i7 hW.2.2.2 s8 (.int .i64 k0) (.int .i64 k1) (.int .i64 k2) (.int .i64 k3) (.int .i64 k4);have h82:=kz h8 (.int .i64 k0) (.int .i64 k1) (.int .i64 k2) (.int .i64 k3) (.int .i64 k4);have hs2:=hW.2.2.1;unfold aN
        go_simp
        simp only[aF];refine hR _ _ ?_ trivial (by simp[World.setCell]);refine ⟨B8,?_,h82,hW2,by simpa [World.setCell] using hs2⟩;show bM x 27 _ 26=_;rw[bC (i:=27) (j:=26) _ _ (by decide),hx26']
      simp only[Act.put];refine cz (by kernel_rfl) (by kernel_rfl) (by kernel_rfl) (fun _ _ h hb=>⟨(hb.block _ (ay h.1)).trans h.1,(hb.block _ (ay h.2.1)).trans h.2.1,aC h.2.2.1 hb.size,h.2.2.2.trans (hb.mono h.2.2.1)⟩) (fun _ _ _ _=>trivial) (fun _ _=>trivial) (⟨H6.out,H7.out,hls,HB4.out.trans ((ah _ _).drew)⟩) ?_;intro x W hE hW hF hD;clear hD;obtain ⟨B8,hx26,h8,hb8,hs8⟩:=hF.1.2 rfl;have z0:=ac h8 0;have z1:=ac h8 1;have z2:=ac h8 2;have z3:=ac h8 3;have z4:=ac h8 4;have HB8:=hid hb8;clear hF hW h8 hb8 HK0 HK1 HK2 HK3 HK4;simp only[hx26];clear hx26
      go_wp2
      go_loop [9] (fun i=>∃q:Nat,q≤5∧i=.int .i64 q∧bF [k0,k1,k2,k3,k4]=bF ([k0,k1,k2,k3,k4].drop q)) (fun i=>5-(intOf i).toNat)
      case atStart=>exact ⟨0,aE _,rfl,rfl⟩
      case round=>
       obtain ⟨q,hq,rfl,hfn⟩:=hrel;have HFN:=hid hfn;clear hfn;have hq6:q=0∨q=1∨q=2∨q=3∨q=4∨q=5:=by omega
       rcases hq6 with rfl | rfl | rfl | rfl | rfl | rfl
       · by_cases hz:k0=0
         · have HF2:Hid (bF [k0,k1,k2,k3,k4]=bF ([k0,k1,k2,k3,k4].drop 1)):=hid (by
             rw[HFN.out];show (if k0=0 then bF [k1,k2,k3,k4] else k0)=bF [k1,k2,k3,k4];rw[if_pos hz])
           clear HFN
           go_wp2
           go_round
           case rel=>exact ⟨1,by omega,rfl,HF2.out⟩
           case measure=>simp[intOf]
         · have HR:Hid (dA ta tb=k0):=hid (by
             have hf:gJ ⟨op1,sort1,name1,num1,kids1⟩ ⟨op2,sort2,name2,num2,kids2⟩=k0:=by
              rw[HND.out,HFN.out];show (if k0=0 then bF [k1,k2,k3,k4] else k0)=k0;rw[if_neg hz]
             rw[HT.out,HST.out,hf,if_neg hz])
           have hzf:(k0==0)=false:=by simp[hz]
           clear HFN HND HST HT
           go_wp2
           go_ret
           exact ⟨by rw[HR.out];rfl,HB8.out⟩
       · by_cases hz:k1=0
         · have HF2:Hid (bF [k0,k1,k2,k3,k4]=bF ([k0,k1,k2,k3,k4].drop 2)):=hid (by
             rw[HFN.out];show (if k1=0 then bF [k2,k3,k4] else k1)=bF [k2,k3,k4];rw[if_pos hz])
           clear HFN
           go_wp2
           go_round
           case rel=>exact ⟨2,by omega,rfl,HF2.out⟩
           case measure=>simp[intOf]
         · have HR:Hid (dA ta tb=k1):=hid (by
             have hf:gJ ⟨op1,sort1,name1,num1,kids1⟩ ⟨op2,sort2,name2,num2,kids2⟩=k1:=by
              rw[HND.out,HFN.out];show (if k1=0 then bF [k2,k3,k4] else k1)=k1;rw[if_neg hz]
             rw[HT.out,HST.out,hf,if_neg hz])
           have hzf:(k1==0)=false:=by simp[hz]
           clear HFN HND HST HT
           go_wp2
           go_ret
           exact ⟨by rw[HR.out];rfl,HB8.out⟩
       · by_cases hz:k2=0
         · have HF2:Hid (bF [k0,k1,k2,k3,k4]=bF ([k0,k1,k2,k3,k4].drop 3)):=hid (by
             rw[HFN.out];show (if k2=0 then bF [k3,k4] else k2)=bF [k3,k4];rw[if_pos hz])
           clear HFN
           go_wp2
           go_round
           case rel=>exact ⟨3,by omega,rfl,HF2.out⟩
           case measure=>simp[intOf]
         · have HR:Hid (dA ta tb=k2):=hid (by
             have hf:gJ ⟨op1,sort1,name1,num1,kids1⟩ ⟨op2,sort2,name2,num2,kids2⟩=k2:=by
              rw[HND.out,HFN.out];show (if k2=0 then bF [k3,k4] else k2)=k2;rw[if_neg hz]
             rw[HT.out,HST.out,hf,if_neg hz])
           have hzf:(k2==0)=false:=by simp[hz]
           clear HFN HND HST HT
           go_wp2
           go_ret
           exact ⟨by rw[HR.out];rfl,HB8.out⟩
       · by_cases hz:k3=0
         · have HF2:Hid (bF [k0,k1,k2,k3,k4]=bF ([k0,k1,k2,k3,k4].drop 4)):=hid (by
             rw[HFN.out];show (if k3=0 then bF [k4] else k3)=bF [k4];rw[if_pos hz])
           clear HFN
           go_wp2
           go_round
           case rel=>exact ⟨4,by omega,rfl,HF2.out⟩
           case measure=>simp[intOf]
         · have HR:Hid (dA ta tb=k3):=hid (by
             have hf:gJ ⟨op1,sort1,name1,num1,kids1⟩ ⟨op2,sort2,name2,num2,kids2⟩=k3:=by
              rw[HND.out,HFN.out];show (if k3=0 then bF [k4] else k3)=k3;rw[if_neg hz]
             rw[HT.out,HST.out,hf,if_neg hz])
           have hzf:(k3==0)=false:=by simp[hz]
           clear HFN HND HST HT
           go_wp2
           go_ret
           exact ⟨by rw[HR.out];rfl,HB8.out⟩
       · by_cases hz:k4=0
         · have HF2:Hid (bF [k0,k1,k2,k3,k4]=bF ([k0,k1,k2,k3,k4].drop 5)):=hid (by
             rw[HFN.out];show (if k4=0 then bF [] else k4)=bF [];rw[if_pos hz])
           clear HFN
           go_wp2
           go_round
           case rel=>exact ⟨5,by omega,rfl,HF2.out⟩
           case measure=>simp[intOf]
         · have HR:Hid (dA ta tb=k4):=hid (by
             have hf:gJ ⟨op1,sort1,name1,num1,kids1⟩ ⟨op2,sort2,name2,num2,kids2⟩=k4:=by
              rw[HND.out,HFN.out];show (if k4=0 then bF [] else k4)=k4;rw[if_neg hz]
             rw[HT.out,HST.out,hf,if_neg hz])
           have hzf:(k4==0)=false:=by simp[hz]
           clear HFN HND HST HT
           go_wp2
           go_ret
           exact ⟨by rw[HR.out];rfl,HB8.out⟩
       · have HZ:Hid (dA ta tb=dA (ta.drop (k+1)) (tb.drop (k+1))):=hid (by
           rw[HT.out,HST.out,if_pos]
           rw[HND.out,HFN.out];rfl)
         clear HFN HND HST
         go_wp2
         go_roundw
         case rel=>exact ⟨k+1,by omega,by omega,by go_num,HZ.out,HB8.out⟩
         case measure=>simp[intOf];omega
    · have hke:k=n2:=by omega
      subst hke;have hdr:tb.drop k=[]:=List.drop_of_length_le (by rw[HN2.out];exact ag _)
      have HR:Hid (dA ta tb=cmpI n1 k):=hid (by
       rw[HT.out,hdr,yq,List.length_drop,HN1.out];unfold cmpI;rw[if_neg (by omega),if_pos (by omega),if_neg (by omega),if_pos (by omega)])
      clear hdr HT hS
      go_wp2_with fail
      refine (ii _ _ _).mono ?_;rintro e w9 ⟨rfl,rfl⟩
      go_wp2
      go_ret
      exact ⟨by rw[HR.out];rfl,HBL.out⟩
  · have hke:k=n1:=by omega
    subst hke;have hdr:ta.drop k=[]:=List.drop_of_length_le (by rw[HN1.out];exact ag _)
    have HR:Hid (dA ta tb=cmpI k n2):=hid (by
     rw[HT.out,hdr,zv,List.length_drop,HN2.out];unfold cmpI
     by_cases hlt:k<n2
     · rw[if_pos (by omega),if_pos (by omega)]
     · rw[if_neg (by omega),if_neg (by omega),if_neg (by omega),if_neg (by omega)])
    clear hdr HT hS
    go_wp2_with fail
    refine (ii _ _ _).mono ?_;rintro e w9 ⟨rfl,rfl⟩
    go_wp2
    go_ret
    exact ⟨by rw[HR.out];rfl,HBL.out⟩
end
end Go.Proofs.YtapdbeaoakcjeaaGreatDoor.Se
/- Order: cmp.Compare, cmp.Or, comparison of bytes. -/
namespace Go.Proofs.YtapdbeaoakcjeaaGreatDoor.Se
open Go.RowKit Nmx
end Go.Proofs.YtapdbeaoakcjeaaGreatDoor.Se
/- The program's compareNodes and Compare. -/
namespace Go.Proofs.YtapdbeaoakcjeaaGreatDoor.Se
open Go.RowKit Nmx
end Go.Proofs.YtapdbeaoakcjeaaGreatDoor.Se
/- The program's Compare at any two lists of nodes; Equal of the reference. -/
namespace Go.Proofs.YtapdbeaoakcjeaaGreatDoor.Se
open Go.RowKit Nmx
section
theorem gG (ax bx:Option Addr) (c1 c2:Nat) (ta tb:List Nd) (w:World) (ha:NodesO w ax ta) (hb:NodesO w bx tb) (hla:ta.length≤1000000) (hlb:tb.length≤1000000):
    Calls Tryz.prog 11 #[.slice ax ta.length c1,.slice bx tb.length c2] w fun e w'=>e=.returned (.bool (dA ta tb==0))∧Below w.heap.size w w':=by
 have h:=mF ax bx c1 c2 ta tb w ha hb hla hlb;clear ha hb;generalize ta.length=n1 at *;generalize tb.length=n2 at *
 go_enter Tryz.func11,Tryz.ntmps11
 go_wp2_with fail
 refine h.mono ?_;rintro e w9 ⟨rfl,hb9⟩;have HB:=hid hb9;clear h hb9
 go_wp2
 go_ret
 exact ⟨rfl,HB.out⟩
end
end Go.Proofs.YtapdbeaoakcjeaaGreatDoor.Se

/- TermRebuild's walk. -/
import Derived.Test.YtapdbeaoakcjeaaGreatDoorEYL
import Derived.Test.YtapdbeaoakcjeaaGreatDoorEYA
import Derived.Test.YtapdbeaoakcjeaaGreatDoorEVM
set_option maxRecDepth 100000
set_option maxHeartbeats 40000000
open Go.Lib (hid)
namespace Go.Proofs.YtapdbeaoakcjeaaGreatDoor.Se
open Go.RowKit Nmx
theorem nT:∀l:List UInt8,Op.bytesLess l l=false
 | []=>rfl
 | x::l=>by
   unfold Op.bytesLess;rw[nT l]
   simp
theorem yv (x:Nd):gJ x x=0:=by
 unfold gJ
 simp[bF,cmpI,jV,nT]
theorem lF:∀ts:List Nd,dA ts ts=0
 | []=>by simp[dA]
 | x::ts=>by
   unfold dA;rw[yv x];exact lF ts
section
theorem nU {ts:List Nd} {s:Int} {x:Nd} {L:List (List Nd×Int×Int)} {E:List Nat} {S:List Int} (hr:RootAt ts s x L E S) (h:WOk ts s) (g cap:Nat) (hcap:ts.length≤cap) (w:World) (hEn:Env w) (hc:NodesAt w g ts) (hg:g<w.heap.size):
    L.length≤420∧x.kids=(L.length:Int)∧Calls Tryz.prog 12 #[.slice (some ⟨g,0,none⟩) ts.length cap] w (fW w (L.map (·.1))):=by
 have hv:=uS h g cap w hEn hc hg;have hfp:=hr.we.fp;have hle:=h.le;have hkn:=hr.ok.kn;rw[List.length_map] at hkn;have hxm:=(hfp x (by rw[hr.eq];simp)).2;have hLn:L.length≤420:=by omega
 have e:ts.length=1+(L.map (·.1)).flatten.length:=by rw[hr.eq,au,Nat.add_comm]
 refine ⟨hLn,hkn,?_⟩;rw[e] at hv hcap ⊢;have hA:1+(L.map (·.1)).flatten.length≤20000:=by omega
 have hB:(L.map (·.1)).length≤20000:=by rw[List.length_map];omega
 have hC:x.kids=((L.map (·.1)).length:Int):=by rw[List.length_map];exact hkn
 have hD:NodesAt w g (x::(L.map (·.1)).flatten):=by rw[←hr.eq];exact hc
 have hE:∀l∈L.map (·.1),tv l:=fun l hl=>by
  obtain ⟨k,hk,rfl⟩:=List.mem_map.1 hl;obtain ⟨_,_,_,_,_,hx⟩:=(hr.ks k hk).wx;exact hx.kidOk
 have hF:∀y∈x::(L.map (·.1)).flatten,y.kids≤1000000:=fun y hy=>by
  have:=(hfp y (by rw[hr.eq];exact hy)).2
  omega
 clear hfp hxm;generalize L.map (·.1)=ls at *;exact pd g cap x ls w hA hB hC hD hg hcap hE hF hv
end
end Go.Proofs.YtapdbeaoakcjeaaGreatDoor.Se
/- The reference's ValidTerm and Kids at the terms of the law. -/
namespace Go.Proofs.YtapdbeaoakcjeaaGreatDoor.Se
open Go.RowKit Nmx
section
theorem pf {ts:List Nd} {s:Int} (h:WOk ts s) (g cap:Nat) (w:World) (hN:NodesAt w g ts) (hg:g<w.heap.size):
    Calls Tryz.prog 47 #[.slice (some ⟨g,0,none⟩) ts.length cap] w fun e w'=>e=.returned (.bool true)∧Below w.heap.size w w':=by
 have hl:=h.le;have hsz:∀y∈ts,y.num.size≤1000:=fun y hy=>by have:=h.sh y hy;omega
 refine gI h.wt (jR 8 ts s g cap w h.wt (by omega) (by omega) hsz hN hg fun w1 hb1=>?_);have hN1:=hN.below hb1 hg;have hg1:=ap hg hb1.size;refine kN vs8 ts g cap w1 hN1 hg1 (by omega) h.un fun x hx h5 w2 hb2=>?_
 obtain ⟨E,S,hwe⟩:=h.wt;obtain ⟨d',y,ks,ss,rest',Ek,Sk,Er,Sr,hd,he,hk,hno,hr⟩:=hwe.step;obtain rfl:rest'=[]:=by cases hr;rfl
 rw[List.append_nil] at he;exact mD ts g cap d' y ks ss Ek Sk w2 he hk hno.kn hsz (by omega) (by omega) (hN1.below hb2 hg1) (ap hg1 hb2.size)
structure KR (S:Nat) (w:World) (ls:List (List Nd)) (v:Value) (k:Nat) (W:World):Prop where
 row:∃xs:List Value,xs.length=k∧(∀q t,q<k→ls[q]? =some t→∃g c,xs[q]? =some (.slice (some ⟨g,0,none⟩) t.length c)∧NodesAt W g t∧Sft W g t.length∧S≤g)∧W.ownsRow S 22 1 v k xs
 nil:k=0→v=.slice none 0 0
 le:k≤ls.length
 bel:Below S w W
theorem KR.far {S:Nat} {w:World} {ls:List (List Nd)} {v:Value} {k:Nat} {W W':World} (h:KR S w ls v k W) (hb:Below W.heap.size W W') (hS:S≤W.heap.size):KR S w ls v k W':=by
 obtain ⟨xs,h0,h1,h2⟩:=h.row;refine ⟨⟨xs,h0,fun q t hq ht=>?_,iD h2 hb (ag _)⟩,h.nil,h.le,h.bel.trans (hb.mono hS)⟩;obtain ⟨g,c,k1,k2,k3,k4⟩:=h1 q t hq ht;exact ⟨g,c,k1,k2.below hb k3.lt,k3.far hb,k4⟩
theorem KR.ne {S:Nat} {w:World} {ls:List (List Nd)} {v:Value} {k:Nat} {W:World} (h:KR S w ls v k W) {g:Nat} {t:List Nd} (hN:NodesAt W g t) (ht:t≠[]):some g≠v.ownBlock:=by
 intro e1;obtain ⟨xs,h0,h1,h2⟩:=h.row
 have hk:0<k:=by
  rcases Nat.eq_zero_or_pos k with e | e
  · rw[h.nil e] at e1;cases e1
  · exact e
 obtain ⟨gv,cv,hv,-,-,-⟩:=aS h2 hk;subst hv;have e3:g=gv:=aG e1;subst e3;have hl:0<ls.length:=ap hk h.le;obtain ⟨g',c',k1,-⟩:=h1 0 ls[0] hk (aq hl);have hc:=h2.cellAt 0 (by omega);rw[k1] at hc;obtain ⟨x,t',rfl⟩:=List.exists_cons_of_ne_nil ht;have hn:W.cell? ⟨g,0,none⟩=some (.int .i64 x.op):=hN 0 x rfl 0 (by decide);rw[hn] at hc;cases hc
theorem KR.fin {S:Nat} {w:World} {ls:List (List Nd)} {v:Value} {W:World} (h:KR S w ls v ls.length W) (h0:0<W.heap.size):∃ak gk ck,v=.slice ak ls.length ck∧KidsN S W ak gk ls:=by
 obtain ⟨xs,hx,h1,h2⟩:=h.row;rcases Nat.eq_zero_or_pos ls.length with e | e
 · exact ⟨none,0,0,by rw[h.nil e,e],fun hn=>absurd e hn,h0,fun j t ht=>by rw[List.length_eq_zero_iff.1 e] at ht;cases ht⟩
 · obtain ⟨gv,cv,hv,-,-,-⟩:=aS h2 e;subst hv;refine ⟨_,gv,cv,rfl,fun _=>rfl,(h2.lt gv rfl).2,fun j t ht=>?_⟩;have hj:j<ls.length:=(List.getElem?_eq_some_iff.1 ht).1;obtain ⟨g,c,k1,k2⟩:=h1 j t hj ht;exact ⟨g,c,(h2.cellAt j (by omega)).trans k1,k2⟩
theorem KR.push {S:Nat} {w:World} {ls:List (List Nd)} {v v':Value} {k g c:Nat} {t:List Nd} {xs:List Value} {W W':World} (h:KR S w ls v k W) (hne:∀t∈ls,t≠[])
    (hx:xs.length=k∧∀q t,q<k→ls[q]? =some t→∃g c,xs[q]? =some (.slice (some ⟨g,0,none⟩) t.length c)∧NodesAt W g t∧Sft W g t.length∧S≤g)
    (ht:ls[k]? =some t) (hN:NodesAt W g t) (hg:Sft W g t.length) (hS:S≤g) (hgr:W.grownBy W' v.ownBlock) (hr:W'.ownsRow S 22 1 v' (k+1) (xs++[.slice (some ⟨g,0,none⟩) t.length c])) (hSW:S≤W.heap.size):KR S w ls v' (k+1) W':=by
 have hkeep:∀(g:Nat) (t:List Nd),t∈ls→NodesAt W g t→Sft W g t.length→NodesAt W' g t∧Sft W' g t.length:=fun g t hm hN hg=>by
  have hb:=hgr.block g hg.lt (h.ne hN (hne t hm));exact ⟨fun i x hx j hj=>(World.cell?_of_block hb).trans (hN i x hx j hj),hg.keep hb⟩
 have hb:=h.bel.grown hgr hSW (fun q e=>by obtain ⟨_,_,_,h2⟩:=h.row;exact (h2.lt q e).1);refine ⟨⟨_,by rw[aA,hx.1];rfl,fun q u hq hu=>?_,hr⟩,fun e=>by omega,(List.getElem?_eq_some_iff.1 ht).1,hb⟩;have hmu:u∈ls:=List.mem_of_getElem? hu
 by_cases hqk:q=k
 · subst hqk;obtain rfl:t=u:=aG (ht.symm.trans hu);obtain ⟨r1,r2⟩:=hkeep g t hmu hN hg;exact ⟨g,c,by rw[List.getElem?_append_right (by omega),hx.1];simp,r1,r2,hS⟩
 · obtain ⟨g',c',k1,k2,k3,k4⟩:=hx.2 q u (by omega) hu;obtain ⟨r1,r2⟩:=hkeep g' u hmu k2 k3;exact ⟨g',c',by rw[List.getElem?_append_left (by omega)];exact k1,r1,r2,k4⟩
theorem qP {ts:List Nd} {s:Int} {x:Nd} {L:List (List Nd×Int×Int)} {E:List Nat} {Sx:List Int} (hr:RootAt ts s x L E Sx) (h:WOk ts s) (g cap:Nat) (hcap:ts.length≤cap) (w:World) (hN:NodesAt w g ts) (hg:g<w.heap.size):
    Calls Tryz.prog 17 #[.slice (some ⟨g,0,none⟩) ts.length cap] w (fW w (L.map (·.1))):=by
 obtain ⟨i0,hi,hz0,hz1,hz2⟩:=info_parts fR;obtain ⟨i1,ji,jz0,jz1,jz2⟩:=info_parts pb;have hv:=pf h g cap w hN hg;have hle:=h.le
 have hLn:(L.map (·.1)).length≤420:=by
  have h1:=(hr.we.fp x (by rw[hr.eq];simp)).2;have h2:=hr.ok.kn;rw[List.length_map] at h2 ⊢
  omega
 have hlen:ts.length=1+(L.map (·.1)).flatten.length:=by rw[hr.eq,au,Nat.add_comm]
 have hne:∀t∈L.map (·.1),t≠[]:=fun t ht=>by
  obtain ⟨k,hk,rfl⟩:=List.mem_map.1 ht;obtain ⟨dk,-,-,E',S',hx⟩:=(hr.ks k hk).wx;obtain ⟨_,_,_,_,_,_,_,_,_,-,he,-⟩:=hx.we.step;rw[he];exact List.cons_ne_nil _ _
 have HTR:Hid (∀(k:Nat) (t:List Nd) (W:World),(L.map (·.1))[k]? =some t→Below w.heap.size w W→∃sv,Calls Tryz.prog 48 #[.slice (some ⟨g,0,none⟩) ts.length cap,.int .i64 ((1+((L.map (·.1)).take k).flatten.length:Nat):Int),.int .i64 0] W (TP W (1+((L.map (·.1)).take k).flatten.length+t.length) sv)):=hid fun k t W hk hW=>by
  have hk':=hk;rw[List.getElem?_map] at hk';obtain ⟨kk,hkk,rfl⟩:=Option.map_eq_some_iff.1 hk';obtain ⟨dk,-,hd,E',S',hx⟩:=(hr.ks kk (List.mem_of_getElem? hkk)).wx;obtain ⟨Es,hws⟩:=hx.we.shift (1+((L.map (·.1)).take k).flatten.length);obtain ⟨d',x',ks',ss',rest',Ek',Sk',Er',Sr',hde,he,hwk,hno,hwr⟩:=hws.step;obtain rfl:rest'=[]:=by cases hwr;rfl
  rw[List.append_nil] at he;have hj:k<(L.map (·.1)).length:=(List.getElem?_eq_some_iff.1 hk).1;have hjk:(L.map (·.1))[k]=kk.1:=(List.getElem?_eq_some_iff.1 hk).2
  have hag:Agr ndZ 0 ts (1+((L.map (·.1)).take k).flatten.length) kk.1:=by
   have h1:Agr ndZ 0 ts 1 (((L.map (·.1)).take k).flatten++(kk.1++((L.map (·.1)).drop (k+1)).flatten)):=by
    rw[←hjk,←List.flatten_cons,←List.drop_eq_getElem_cons hj,←List.flatten_append,List.take_append_drop,hr.eq];intro i hi;simp[show 1+i=i+1 by omega]
   exact h1.right.left
  rw[he] at hag
  have hll:1+((L.map (·.1)).take k).flatten.length+kk.1.length≤ts.length:=by
   have h1:(L.map (·.1)).flatten=((L.map (·.1)).take k).flatten++(kk.1++((L.map (·.1)).drop (k+1)).flatten):=by
    rw[←hjk,←List.flatten_cons,←List.drop_eq_getElem_cons hj,←List.flatten_append,List.take_append_drop]
   have h2:=congrArg List.length h1;simp only[aA] at h2
   omega
  have hlk:kk.1.length=1+ks'.length:=by rw[he,au,Nat.add_comm]
  have ht:=oZ d' ts g cap (1+((L.map (·.1)).take k).flatten.length) x' ks' ss' kk.2.2 Ek' Sk' 0 W hwk hno hag (by omega) (fun y hy=>by have:=h.sh y hy;omega) (by omega) (by omega) (hN.below hW hg) (ap hg hW.size);refine ⟨kk.2.2,?_⟩;rw[show 1+((L.map (·.1)).take k).flatten.length+kk.1.length=1+((L.map (·.1)).take k).flatten.length+1+ks'.length by omega];exact ht
 have heq:=hr.eq;generalize L.map (·.1)=ls at *;have HKC:Hid (∀(j:Nat) (t:List Nd) (W:World),ls[j]? =some t→Below w.heap.size w W→∀(q:Nat) (u:Value),(bm t)[q]? =some u→W.cell? ⟨g,(1+(ls.take j).flatten.length)*5+q,none⟩=some u):=hid fun j t W hj hW=>nS (by rw[←heq];exact hN.below hW hg) hj
 have HSU:Hid (∀(j:Nat) (t:List Nd),ls[j]? =some t→1+(ls.take j).flatten.length+t.length≤ts.length∧1+(ls.take (j+1)).flatten.length=1+(ls.take j).flatten.length+t.length):=hid fun j t hj=>by
  obtain ⟨hj1,hj2⟩:=List.getElem?_eq_some_iff.1 hj;have h1:ls.flatten=(ls.take (j+1)).flatten++(ls.drop (j+1)).flatten:=by rw[←List.flatten_append,List.take_append_drop]
  have h2:(ls.take (j+1)).flatten.length=(ls.take j).flatten.length+t.length:=by rw[d9 hj1,aA,hj2]
  have h3:=congrArg List.length h1;rw[aA] at h3
  omega
 have HNE:=hid hne;obtain ⟨N,hNN⟩:∃N,ts.length=N:=⟨_,rfl⟩
 have HLEN:=hid hlen;have HNN:=hid hNN;rw[hNN] at hv hcap hle HTR HSU HLEN ⊢;clear hr h hN hlen hne heq hNN
 go_enter Tryz.func17,Tryz.ntmps17
 go_wp2_with fail
 refine hv.mono ?_;rintro e w1 ⟨rfl,hb1⟩;have HK1:Hid (KR w.heap.size w ls (.slice none 0 0) 0 w1):=hid ⟨⟨[],rfl,fun q t hq=>absurd hq (Nat.not_lt_zero q),World.ownsRow_nil _ _ _ _⟩,fun _=>rfl,aE _,hb1⟩;generalize hS:w.heap.size=S at *;have HSe:=hid hS;clear hv hb1 hS
 go_wp2
 go_loopw [3,4] (fun v at1 wr=>∃k:Nat,at1=.int .i64 ((1+(ls.take k).flatten.length:Nat):Int)∧KR S w ls v k wr) (fun _ at1 _=>N-(intOf at1).toNat)
 case atStart=>exact ⟨0,rfl,HK1.out⟩
 case round=>
  clear HK1;obtain ⟨k,rfl,hkr⟩:=hrel;have HK:=hid hkr;have hSw:S≤wr.heap.size:=by have:=hkr.bel.size;have:=HSe.out;omega
  have hkle:=hkr.le;clear hkr
  by_cases hlt:k<ls.length
  · have hlk:ls[k]? =some ls[k]:=aq hlt;have hmem:=List.getElem_mem hlt;obtain ⟨hsu1,hsu2⟩:=HSU.out k ls[k] hlk;obtain ⟨sv,htr⟩:=HTR.out k ls[k] wr hlk HK.out.bel;have hm0:0<ls[k].length:=List.length_pos_iff.2 (HNE.out _ hmem);have HCC:=hid fun (W:World) (hW:Below S w W)=>HKC.out k ls[k] W hlk hW
    have HLK:=hid hlk;have HM2:=hid hsu2;generalize hta:ls[k]=t at *;obtain ⟨m,hm⟩:∃m,t.length=m:=⟨_,rfl⟩
    have HM:=hid hm;rw[hm] at hsu1 htr hm0 HM2;generalize 1+(ls.take k).flatten.length=a at *;have a1:(a:Int)<(N:Int):=by omega
    have a2:(a:Int)≤((a+m:Nat):Int):=by omega
    have a3:((a+m:Nat):Int)≤(cap:Int):=by omega
    clear hlk hmem hsu2 hta hm
    go_wp2_with fail
    refine htr.mono ?_;rintro e w2 ⟨rfl,hb2⟩;have HK2:=hid (HK.out.far hb2 hSw);have hS2:=aC hSw hb2.size;clear htr hb2 HK;have HFL:Hid ((bm t).length=m*5):=hid (by rw[du,HM.out]);have HON:=hid (i5 t)
    go_wp2_with (at_builtin;go_loud (refine wpList_append_own _ rfl _ _ 22 rfl w2.heap.size 34 i0 _ 5 56 Tryz.underlying22 hi hz0 hz1 hz2 rfl (by decide) (.slice none 0 0) 0 [] rfl (World.ownsRow_nil _ _ _ _) ⟨g,a*5,none⟩ (a+m-a) (cap-a) (bm t) rfl (by rw[Nat.add_sub_cancel_left];exact HFL.out) (fun q u hq=>by rw[tw];exact HCC.out w2 HK2.out.bel q u hq) HON.out (by unfold maxLen;omega) (by omega) (by simp) ?_))
    intro v3 w3 hrow hgr _;obtain ⟨gc,cc,rfl,-,-,-⟩:=aS hrow hm0;have hb3:Below w2.heap.size w2 w3:=(ah _ _).grown hgr (ag _) (fun k e=>by cases e);have hNt:NodesAt w3 gc t:=dC (fun q hq=>hrow.cellAt q (by rw[HM.out] at hq;exact hq));have hSf:Sft w3 gc t.length:=by rw[HM.out];exact .row hrow
    have hSg:S≤gc:=aC hS2 (hrow.lt gc rfl).1;have hS3:=aC hS2 hb3.size;have hal:=aD w3 (.cells #[.slice (some ⟨gc,0,none⟩) m cc] 22);have HK4:=hid ((HK2.out.far hb3 hS2).far hal hS3);have HN4:=hid (hNt.below hal hSf.lt);have HS4:=hid (hSf.far hal);have hS4:=aC hS3 hal.size;obtain ⟨xs,hx0,hx1,hx2⟩:=HK4.out.row;have HX:=hid (And.intro hx0 hx1);have HR:=hid hx2;clear hrow hgr hb3 hNt hSf hal hx0 hx1 hx2 HK2
    go_wp2_with (at_builtin;go_loud (refine wpList_append_own _ rfl _ _ 29 rfl S 22 i1 _ 1 24 Tryz.underlying29 ji jz0 jz1 jz2 rfl (by decide) _ k xs rfl HR.out ⟨w3.heap.size,0,none⟩ 1 1 [.slice (some ⟨gc,0,none⟩) m cc] rfl rfl (World.news_of_block (cs:=#[.slice (some ⟨gc,0,none⟩) m cc]) (t:=22) (fr:=(0,0)) (heap_alloc_new w3 _)) (by simp[Value.oneCell']) (by unfold maxLen;omega) (by omega) hS4 ?_))
    intro v' w4 hown' hgrow _;have HK5:=hid (HK4.out.push (c:=cc) HNE.out HX.out HLK.out HN4.out HS4.out hSg hgrow (by rw[HM.out];exact hown') hS4);clear hown' hgrow HK4 HN4 HS4 HX HR
    go_wp2
    go_roundw
    case rel=>exact ⟨k+1,by rw[HM2.out];rfl,HK5.out⟩
    case measure=>simp[intOf];omega
  · obtain rfl:k=ls.length:=by omega
    have hall:ls.take ls.length=ls:=aJ (ag _);have hla:1+(ls.take ls.length).flatten.length=N:=by rw[hall];exact HLEN.out.symm
    rw[hla];obtain ⟨ak,gk,ck,hv,hkn⟩:=HK.out.fin (by omega);subst hv;have HFIN:Hid (fW w ls (.returned (.slice ak ls.length ck)) wr):=hid ⟨ak,gk,ck,rfl,by rw[HSe.out];exact hkn,by rw[HSe.out];exact HK.out.bel⟩;clear hkn HK hall hla
    go_wp2
    go_ret
    exact HFIN.out
end
end Go.Proofs.YtapdbeaoakcjeaaGreatDoor.Se
/- Two rows of the same terms are equal. -/
namespace Go.Proofs.YtapdbeaoakcjeaaGreatDoor.Se
open Go.RowKit Nmx
section
theorem li (ls:List (List Nd)) (ak bk:Option Addr) (ga gb ca cb:Nat) (w:World) (ha:Kds w ak ga ls) (hb:Kds w bk gb ls) (hl:∀t∈ls,t.length≤420) (hn:ls.length≤420):
    Calls Tryz.prog 16 #[.slice ak ls.length ca,.slice bk ls.length cb] w fun e w'=>e=.returned (.bool true)∧Below w.heap.size w w':=by
 have HA:=hid ha;have HB:=hid hb;have HLE:=hid hl;obtain ⟨n,hnn⟩:∃n,ls.length=n:=⟨_,rfl⟩
 have HN:=hid hnn;rw[hnn] at hn ⊢;clear ha hb hl hnn
 go_enter Tryz.func16,Tryz.ntmps16
 go_wp2
 go_loopw [5] (fun i wr=>∃j:Nat,j≤n∧i=.int .i64 j∧Below w.heap.size w wr) (fun i _=>n-(intOf i).toNat)
 case atStart=>exact ⟨0,aE _,rfl,ah _ _⟩
 case round=>
  obtain ⟨j,hj,rfl,hbel⟩:=hrel;have HBL:=hid hbel
  by_cases hlt:j<n
  · have hjL:j<ls.length:=by rw[HN.out];exact hlt
    have hltI:(j:Int)<(n:Int):=by omega
    obtain rfl:=HA.out.1 (by omega);obtain rfl:=HB.out.1 (by omega);have hd:=aQ hbel 1;obtain ⟨g1,k1,c1,n1,l1⟩:=(HA.out.far hd).2.2 j ls[j] (aq hjL);obtain ⟨g2,k2,c2,n2,l2⟩:=(HB.out.far hd).2.2 j ls[j] (aq hjL);have hla:=HLE.out _ (List.getElem_mem hjL);have heq:=gG (some ⟨g1,0,none⟩) (some ⟨g2,0,none⟩) k1 k2 ls[j] ls[j] (wr.drewN 1) (n1.o l1) (n2.o l2) (by omega) (by omega);rw[lF ls[j]] at heq;have hga:=(HA.out.far hd).2.1;have hgb:=(HB.out.far hd).2.1;generalize ls[j].length=m at *;clear n1 n2 hbel hd;replace heq:Calls _ _ _ wr.drew _:=heq;replace c1:wr.cell? ⟨ga,j,none⟩=_:=c1;replace c2:wr.cell? ⟨gb,j,none⟩=_:=c2
    go_wp2
    go_region_held3 (fun w'=>w'.cell? ⟨ga,j,none⟩=some (.slice (some ⟨g1,0,none⟩) m k1)∧w'.cell? ⟨gb,j,none⟩=some (.slice (some ⟨g2,0,none⟩) m k2)) (first | exact ⟨q1,q2⟩ | exact ⟨c1,c2⟩ | go_keep) ((go_at_call 11;refine heq.mono ?_;rintro e w5 ⟨rfl,hb5⟩;have q1:=(hb5.cell (p:=⟨ga,j,none⟩) hga).trans c1;have q2:=(hb5.cell (p:=⟨gb,j,none⟩) hgb).trans c2;have HB5:=hid hb5;clear hb5))
    have HB6:=hid (HBL.out.trans ((aQ (ah wr.heap.size wr) 1).mono HBL.out.size));have HB7:=hid (HB6.out.trans (HB5.out.mono HB6.out.size));clear c1 c2 q1 q2 HB5 HB6 HBL heq
    go_wp2
    go_roundw
    case rel=>exact ⟨j+1,by omega,by go_num,HB7.out⟩
    case measure=>simp[intOf];omega
  · have hjn:(n:Int)≤(j:Int):=by omega
    go_wp2
    go_ret
    exact ⟨rfl,HBL.out⟩
end
end Go.Proofs.YtapdbeaoakcjeaaGreatDoor.Se
/- Worlds in which some nodes were overwritten. -/
namespace Go.Proofs.YtapdbeaoakcjeaaGreatDoor.Se
open Go.RowKit Nmx
theorem Sft.set {w:World} {g n:Nat} (h:Sft w g n) (i:Nat) (v:Value):Sft (w.setCell ⟨g,i,none⟩ v) g n:=by
 obtain ⟨cs,ty,h1,h2⟩:=h;exact ⟨_,ty,heap_set h1 i v,by simpa using h2⟩
theorem Sft.cell {w:World} {g n:Nat} (h:Sft w g n) {q:Nat} (hq:q<n*5):(∃u,w.cell? ⟨g,q,none⟩=some u)∧w.frozen? ⟨g,q,none⟩=false:=by
 obtain ⟨cs,ty,h1,h2⟩:=h;exact ⟨⟨_,(ac h1 q).trans (by rw[Array.getElem?_eq_getElem (by omega)])⟩,eb h1 q⟩
def zset (w:World) (g j:Nat) (a b c d e:Value):World:=((((w.setCell ⟨g,j*5,none⟩ a).setCell ⟨g,j*5+1,none⟩ b).setCell ⟨g,j*5+2,none⟩ c).setCell ⟨g,j*5+3,none⟩ d).setCell ⟨g,j*5+4,none⟩ e
theorem Sft.zset {w:World} {g n:Nat} (h:Sft w g n) (j:Nat) (a b c d e:Value):Sft (zset w g j a b c d e) g n:=((((h.set _ _).set _ _).set _ _).set _ _).set _ _
theorem tB {w:World} {g b:Nat} (hb:b≠g) (j:Nat) (v0 v1 v2 v3 v4:Value):(zset w g j v0 v1 v2 v3 v4).heap[b]? =w.heap[b]? :=
 (aB _ _ _ _ hb).trans ((aB _ _ _ _ hb).trans ((aB _ _ _ _ hb).trans ((aB _ _ _ _ hb).trans (aB _ _ _ _ hb))))
theorem nV (w:World) (g j:Nat) (v0 v1 v2 v3 v4:Value):(zset w g j v0 v1 v2 v3 v4).heap.size=w.heap.size:=by simp[zset]
theorem qQ {B:Nat} {w W:World} (h:Below B w W) {g:Nat} (hg:B≤g) (j:Nat) (v0 v1 v2 v3 v4:Value):Below B w (zset W g j v0 v1 v2 v3 v4):=
 ((((h.setCell hg _).setCell hg _).setCell hg _).setCell hg _).setCell hg _
structure ZK (B:Nat) (w:World) (A C gk:Nat) (w4:World) (ls:List (List Nd)) (W:World):Prop where
 keep:∀b,b<A∨C≤b∨b=gk→W.heap[b]? =w4.heap[b]?
 size:W.heap.size=w4.heap.size
 soft:∀j t,ls[j]? =some t→∃g c,W.cell? ⟨gk,j,none⟩=some (.slice (some ⟨g,0,none⟩) t.length c)∧Sft W g t.length∧A≤g∧g<C∧g≠gk
 bel:Below B w W
theorem ZK.set {B:Nat} {w:World} {A C gk:Nat} {w4:World} {ls:List (List Nd)} {W:World} (h:ZK B w A C gk w4 ls W) {g:Nat} (h1:A≤g) (h2:g<C) (h3:g≠gk) (hB:B≤A) (j:Nat) (v0 v1 v2 v3 v4:Value):ZK B w A C gk w4 ls (zset W g j v0 v1 v2 v3 v4):=by
 have hne:∀b,b≠g→(zset W g j v0 v1 v2 v3 v4).heap[b]? =W.heap[b]? :=fun b hb=>tB hb j v0 v1 v2 v3 v4
 have hsz:=nV W g j v0 v1 v2 v3 v4;have hbl:=qQ h.bel (aC hB h1) j v0 v1 v2 v3 v4;have hsf:∀n,Sft W g n→Sft (zset W g j v0 v1 v2 v3 v4) g n:=fun n hn=>hn.zset j v0 v1 v2 v3 v4
 generalize zset W g j v0 v1 v2 v3 v4=W' at *;refine ⟨fun b hb=>(hne b (by omega)).trans (h.keep b hb),hsz.trans h.size,fun q t ht=>?_,hbl⟩;obtain ⟨g',c,k1,k2,k3,k4,k5⟩:=h.soft q t ht;refine ⟨g',c,(World.cell?_of_block (a:=⟨gk,q,none⟩) (hne gk (Ne.symm h3))).trans k1,?_,k3,k4,k5⟩
 by_cases hg:g'=g
 · subst hg;exact hsf _ k2
 · exact k2.keep (hne g' hg)
theorem KidsN.ne {S:Nat} {w:World} {ak:Option Addr} {gk:Nat} {ls:List (List Nd)} (h:KidsN S w ak gk ls) {g:Nat} {t:List Nd} (hN:NodesAt w g t) (ht:t≠[]) (hl:0<ls.length):g≠gk:=by
 rintro rfl;obtain ⟨g',c',k1,-⟩:=h.2.2 0 ls[0] (aq hl);obtain ⟨x,t',rfl⟩:=List.exists_cons_of_ne_nil ht;have hn:w.cell? ⟨g,0,none⟩=some (.int .i64 x.op):=hN 0 x rfl 0 (by decide);rw[hn] at k1;cases k1
structure ZU (B:Nat) (w:World) (gu n:Nat) (w7:World) (W:World):Prop where
 keep:∀b,b≠gu→W.heap[b]? =w7.heap[b]?
 size:W.heap.size=w7.heap.size
 soft:Sft W gu n
 bel:Below B w W
theorem ZU.set {B:Nat} {w:World} {gu n:Nat} {w7 W:World} (h:ZU B w gu n w7 W) (hB:B≤gu) (j:Nat) (v0 v1 v2 v3 v4:Value):ZU B w gu n w7 (zset W gu j v0 v1 v2 v3 v4):=
 ⟨fun b hb=>(tB hb j v0 v1 v2 v3 v4).trans (h.keep b hb),(nV W gu j v0 v1 v2 v3 v4).trans h.size,h.soft.zset j v0 v1 v2 v3 v4,qQ h.bel hB j v0 v1 v2 v3 v4⟩
theorem KidsN.keepU {S:Nat} {w W:World} {ak:Option Addr} {gk gu:Nat} {ls:List (List Nd)} (h:KidsN S w ak gk ls) (hk:∀b,b≠gu→W.heap[b]? =w.heap[b]?) (hs:W.heap.size=w.heap.size) (hu:gu<S) (hn:0<ls.length→gu≠gk):KidsN S W ak gk ls:=by
 refine ⟨h.1,by rw[hs];exact h.2.1,fun j t ht=>?_⟩;have hj:j<ls.length:=(List.getElem?_eq_some_iff.1 ht).1;obtain ⟨g,c,k1,k2,k3,k4⟩:=h.2.2 j t ht;have hb:=hk g (by omega);exact ⟨g,c,(World.cell?_of_block (a:=⟨gk,j,none⟩) (hk gk (Ne.symm (hn (by omega))))).trans k1,fun i x hx q hq=>(World.cell?_of_block hb).trans (k2 i x hx q hq),k3.keep hb,k4⟩
theorem NodesAt.keep {w W:World} {g:Nat} {ts:List Nd} (h:NodesAt w g ts) (hb:W.heap[g]? =w.heap[g]?):NodesAt W g ts:=fun i x hx j hj=>(World.cell?_of_block hb).trans (h i x hx j hj)
end Go.Proofs.YtapdbeaoakcjeaaGreatDoor.Se
/- TermCopies' walk. -/
namespace Go.Proofs.YtapdbeaoakcjeaaGreatDoor.Se
open Go.RowKit Nmx
section
theorem sn (al:Option Addr) (ll cl:Nat) (w:World) (hEn:Env w) (hl:ArgI w al ll cl):
    Calls Tryz.prog 5 #[.slice al ll cl] w fun e w'=>e=.returned (.bool true)∧Below w.heap.size w w':=by
 obtain ⟨i0,hi,hz0,hz1,hz2⟩:=info_parts fR;have hw1:=xg al ll cl w hl;have HEn:=hid hEn;clear hEn hl
 go_enter Tryz.func5,Tryz.ntmps5
 go_wp2_with fail
 refine hw1.mono ?_;rintro e w1 ⟨g,d,ts,rfl,k1,k2,kt,kb⟩;obtain ⟨s,hok⟩:=kt.ok;obtain ⟨x,L,E,S,hr⟩:=hok.root;have hle:=hok.le;have hN0:0<ts.length:=List.length_pos_iff.2 hok.ne;have HB1:=hid kb;have HC1:=hid k1;have HOK:=hid hok;have HR:=hid hr
 have HNE:Hid (∀t∈L.map (·.1),t≠[]):=hid fun t ht=>by
  obtain ⟨k,hk,rfl⟩:=List.mem_map.1 ht;obtain ⟨dk,-,-,E',S',hx⟩:=(hr.ks k hk).wx;obtain ⟨_,_,_,_,_,_,_,_,_,-,he,-⟩:=hx.we.step;rw[he];exact List.cons_ne_nil _ _
 obtain ⟨c,hc⟩:∃c,ts.length+d=c:=⟨_,rfl⟩
 obtain ⟨N,hN⟩:∃N,ts.length=N:=⟨_,rfl⟩
 have HN:=hid hN;have hNc:N≤c:=by omega
 have HFL:Hid ((bm ts).length=N*5):=hid (by rw[du,hN]);have HNF:=hid (e7 k1);have HON:=hid (i5 ts);rw[hc,hN];rw[hN] at hle hN0;clear hw1 kt kb k1 hc hN hok hr
 go_wp2_with (at_builtin;go_must (refine wpList_append_own _ rfl _ _ 22 rfl w1.heap.size 34 i0 _ 5 56 Tryz.underlying22 hi hz0 hz1 hz2 rfl (by decide) (.slice none 0 0) 0 [] rfl (World.ownsRow_nil _ _ _ _) ⟨g,0,none⟩ N c (bm ts) rfl HFL.out (fun q u hq=>by rw[oT];exact HNF.out q u hq) HON.out (by unfold maxLen;omega) (by omega) (by simp) ?_))
 intro v2 w2 hrow hgr _;obtain ⟨gw,cw,rfl,-,-,-⟩:=aS hrow hN0;have hb2:Below w1.heap.size w1 w2:=(ah _ _).grown hgr (ag _) (fun k e=>by cases e);have hNw:NodesAt w2 gw ts:=dC (fun q hq=>hrow.cellAt q (by rw[HN.out] at hq;exact hq));have hgw:=hrow.lt gw rfl;have hcw:=tg hrow;have HB2:=hid (HB1.out.trans (hb2.mono HB1.out.size));have HC2:=hid (HC1.out.below hb2 k2);have HW2:=hid hNw;have hg2:=ap k2 hb2.size;obtain ⟨hLn,hxk,hkids⟩:=nU HR.out HOK.out g c (by rw[HN.out];exact hNc) w2 (HEn.out.far HB2.out) HC2.out hg2;rw[HN.out] at hkids;obtain ⟨n,hn⟩:∃n,L.length=n:=⟨_,rfl⟩
 have HNL:=hid hn;rw[hn] at hLn hxk;have HXK:=hid hxk;clear hrow hgr hb2 hNw HB1 HC1 HNF HON HFL hn hxk
 go_wp2_with fail
 refine hkids.mono ?_;rintro e w3 ⟨ak,gk,ck,rfl,hkn,hb3⟩;rw[List.length_map,HNL.out];have HB3:=hid (HB2.out.trans (hb3.mono HB2.out.size));have hC3:=HC2.out.below hb3 hg2;have hg3:=ap hg2 hb3.size;have hW3:=HW2.out.below hb3 hgw.2;have hgw3:=ap hgw.2 hb3.size;have HKN:=hid hkn;have hnew:=yu HR.out HOK.out x.kids ak gk ck w3 (HEn.out.far HB3.out) hkn.kds;rw[HNL.out] at hnew;have hx0:ts[0]? =some x:=by rw[HR.out.eq];rfl
 have c0:=hC3 0 x hx0 0 (by omega);have c1:=hC3 0 x hx0 1 (by omega);have c2:=hC3 0 x hx0 2 (by omega);have c3:=hC3 0 x hx0 3 (by omega);have c4:=hC3 0 x hx0 4 (by omega);simp only[Nd.cells,List.getElem?_cons_succ,List.getElem?_cons_zero,Nat.zero_mul,Nat.zero_add] at c0 c1 c2 c3 c4;have HC3:=hid hC3;have HW3:=hid hW3;have hS12:=hgw.1;have hS23:=hb3.size;clear hkn hb3 hkids HC2 HW2 hC3 hW3 hx0
 go_wp2_with fail
 refine hnew.mono ?_;rintro e w4 ⟨gu,cu,rfl,hN4,hs4,hgu,hb4⟩;rw[HN.out] at hs4 ⊢;have HB4:=hid (HB3.out.trans (hb4.mono HB3.out.size));have hS34:=hb4.size;have HC4:=hid (HC3.out.below hb4 hg3);have HW4:=hid (HW3.out.below hb4 hgw3);have HU4:=hid hN4;have HS4:=hid hs4;have hgu4:=hs4.lt
 have HZ:Hid (ZK w.heap.size w w2.heap.size w3.heap.size gk w4 (L.map (·.1)) w4):=hid ⟨fun _ _=>rfl,rfl,fun j t ht=>by
  obtain ⟨g',c',q1,q2,q3,q4⟩:=HKN.out.2.2 j t ht
  exact ⟨g',c',(hb4.cell (p:=⟨gk,j,none⟩) HKN.out.2.1).trans q1,q3.far hb4,q4,q3.lt,HKN.out.ne q2 (HNE.out t (List.mem_of_getElem? ht)) (by have:=(List.getElem?_eq_some_iff.1 ht).1;omega)⟩,HB4.out⟩
 have HAK:Hid (n≠0→ak=some ⟨gk,0,none⟩):=hid (by have:=HKN.out.1;rwa [List.length_map,HNL.out] at this);have hSA:w.heap.size≤w2.heap.size:=HB2.out.size;clear hnew hb4 hN4 hs4 c0 c1 c2 c3 c4 HC3 HW3 HKN HB4
 go_wp2
 go_loopw [8] (fun i wr=>∃j:Nat,j≤n∧i=.int .i64 j∧ZK w.heap.size w w2.heap.size w3.heap.size gk w4 (L.map (·.1)) wr) (fun i _=>n-(intOf i).toNat)
 case atStart=>exact ⟨0,aE _,rfl,HZ.out⟩
 case round=>
  clear HZ;obtain ⟨j,hj,rfl,hz⟩:=hrel;have HZ:=hid hz;clear hz
  by_cases hlt:j<n
  · have hltI:(j:Int)<(n:Int):=by omega
    obtain rfl:=HAK.out (by omega);have hjL:j<L.length:=by rw[HNL.out];exact hlt
    have HT:Hid ((L.map (·.1))[j]? =some L[j].1):=hid (by rw[List.getElem?_map,aq hjL];rfl);obtain ⟨m,hm⟩:∃m,L[j].1.length=m:=⟨_,rfl⟩
    have HM:=hid hm;have hm420:m≤420:=by rw[←hm];exact (HR.out.ks _ (List.getElem_mem hjL)).le
    generalize L[j].1=t at *;clear hm
    go_wp2
    go_loopw [9] (fun q wr=>∃r:Nat,r≤m∧q=.int .i64 r∧ZK w.heap.size w w2.heap.size w3.heap.size gk w4 (L.map (·.1)) wr) (fun q _=>m-(intOf q).toNat)
    case atStart=>exact ⟨0,aE _,rfl,HZ.out⟩
    case round=>
     clear HZ;obtain ⟨r,hr,rfl,hz⟩:=hrel;have HZ:=hid hz;clear hz;obtain ⟨gj,cj,hcj,hsj,h1,h2,h3⟩:=HZ.out.soft j t HT.out;rw[HM.out] at hcj hsj
     by_cases hrm:r<m
     · have hrmI:(r:Int)<(m:Int):=by omega
       obtain ⟨⟨v0,c0⟩,z0⟩:=hsj.cell (q:=r*5) (by omega);obtain ⟨⟨v1,c1⟩,z1⟩:=hsj.cell (q:=r*5+1) (by omega);obtain ⟨⟨v2,c2⟩,z2⟩:=hsj.cell (q:=r*5+2) (by omega);obtain ⟨⟨v3,c3⟩,z3⟩:=hsj.cell (q:=r*5+3) (by omega);obtain ⟨⟨v4,c4⟩,z4⟩:=hsj.cell (q:=r*5+4) (by omega);have HZ2:=hid (HZ.out.set h1 h2 h3 hSA r (.int .i64 0) (.int .i64 0) (.string ⟨#[]⟩) (.string ⟨#[]⟩) (.int .i64 0));clear hsj HZ h1 h2 h3
       go_wp2
       go_roundw
       case rel=>exact ⟨r+1,by omega,by go_num,HZ2.out⟩
       case measure=>simp[intOf];omega
     · have hrmI:(m:Int)≤(r:Int):=by omega
       clear hsj h1 h2 h3
       go_wp2
       go_roundw
       case rel=>exact ⟨j+1,by omega,by go_num,HZ.out⟩
       case measure=>simp[intOf];omega
  · have hjn:(n:Int)≤(j:Int):=by omega
    have hzs:=HZ.out.size;have hCw:=HC4.out.keep (HZ.out.keep g (.inl hg2));have hWw:=HW4.out.keep (HZ.out.keep gw (.inl hgw.2));have hUw:=HU4.out.keep (HZ.out.keep gu (.inr (.inl hgu)));have hSw:=HS4.out.keep (HZ.out.keep gu (.inr (.inl hgu)));have hgr:g<wr.heap.size:=by omega
    have hgwr:gw<wr.heap.size:=by omega
    have hgur:gu<wr.heap.size:=by omega
    obtain ⟨-,-,hkids⟩:=nU HR.out HOK.out g c (by rw[HN.out];exact hNc) wr (HEn.out.far HZ.out.bel) hCw hgr;rw[HN.out] at hkids;have HC5:=hid hCw;have HW5:=hid hWw;have HU5:=hid hUw;have HS5:=hid hSw;have HB5:=hid HZ.out.bel;clear hCw hWw hUw hSw hzs HZ HC4 HW4 HU4 HS4 HAK
    go_wp2_with fail
    refine hkids.mono ?_;rintro e w6 ⟨ak2,gk2,ck2,rfl,hkn2,hb6⟩;rw[List.length_map,HNL.out];have hs6:=hb6.size;have HB6:=hid (HB5.out.trans (hb6.mono HB5.out.size));have HC6:=hid (HC5.out.below hb6 hgr);have HW6:=hid (HW5.out.below hb6 hgwr);have hU6:=HU5.out.below hb6 hgur;have hS6:=HS5.out.far hb6;have hnk:0<(L.map (·.1)).length→gu≠gk2:=fun h0=>hkn2.ne hU6 HOK.out.ne h0
    have HNK:=hid hnk;have HKN:=hid hkn2;have heq:=gG (some ⟨gu,0,none⟩) (some ⟨gw,0,none⟩) cu cw ts ts w6 (hU6.o (by omega)) (HW6.out.o (by omega)) (by rw[HN.out];omega) (by rw[HN.out];omega);rw[lF ts,HN.out] at heq;have HS6:=hid hS6;clear hkids hb6 hkn2 HB5 HC5 HW5 HU5 HS5 hU6 hS6 hnk
    go_wp2_with fail
    refine heq.mono ?_;rintro e w7 ⟨rfl,hb7⟩;have hs7:=hb7.size;have HB7:=hid (HB6.out.trans (hb7.mono HB6.out.size));have HC7:=hid (HC6.out.below hb7 (by omega));have HW7:=hid (HW6.out.below hb7 (by omega));have HK7:=hid (HKN.out.far hb7);have HZU:Hid (ZU w.heap.size w gu N w7 w7):=hid ⟨fun _ _=>rfl,rfl,HS6.out.far hb7,HB7.out⟩;have hBu:w.heap.size≤gu:=by omega
    clear heq hb7 HC6 HW6 HKN HS6 HB6 HB7
    go_wp2
    go_loopw [11] (fun i wr=>∃j:Nat,j≤N∧i=.int .i64 j∧ZU w.heap.size w gu N w7 wr) (fun i _=>N-(intOf i).toNat)
    case atStart=>exact ⟨0,aE _,rfl,HZU.out⟩
    case round=>
     clear HZU;obtain ⟨r,hr,rfl,hz⟩:=hrel;have HZ:=hid hz;have hsj:=hz.soft;clear hz
     by_cases hrm:r<N
     · have hrmI:(r:Int)<(N:Int):=by omega
       obtain ⟨⟨v0,c0⟩,z0⟩:=hsj.cell (q:=r*5) (by omega);obtain ⟨⟨v1,c1⟩,z1⟩:=hsj.cell (q:=r*5+1) (by omega);obtain ⟨⟨v2,c2⟩,z2⟩:=hsj.cell (q:=r*5+2) (by omega);obtain ⟨⟨v3,c3⟩,z3⟩:=hsj.cell (q:=r*5+3) (by omega);obtain ⟨⟨v4,c4⟩,z4⟩:=hsj.cell (q:=r*5+4) (by omega);have HZ2:=hid (HZ.out.set hBu r (.int .i64 0) (.int .i64 0) (.string ⟨#[]⟩) (.string ⟨#[]⟩) (.int .i64 0));clear hsj HZ
       go_wp2
       go_roundw
       case rel=>exact ⟨r+1,by omega,by go_num,HZ2.out⟩
       case measure=>simp[intOf];omega
     · have hrmI:(N:Int)≤(r:Int):=by omega
       rename_i wr0 _ _ _ _ _
       have hzs:=HZ.out.size;have hC8:=HC7.out.keep (HZ.out.keep g (by omega));have hW8:=HW7.out.keep (HZ.out.keep gw (by omega));have HK8:=hid (HK7.out.keepU HZ.out.keep hzs hgur HNK.out);have heq:=gG (some ⟨g,0,none⟩) (some ⟨gw,0,none⟩) c cw ts ts wr (hC8.o (by omega)) (hW8.o (by omega)) (by rw[HN.out];omega) (by rw[HN.out];omega);rw[lF ts,HN.out] at heq;have HB8:=hid HZ.out.bel;have HW8:=hid hW8;have hgw8:gw<wr.heap.size:=by omega
       clear hsj hzs hC8 hW8 HZ HC7 HW7 HK7 HNK
       go_wp2_with fail
       refine heq.mono ?_;rintro e w9 ⟨rfl,hb9⟩;have HB9:=hid (HB8.out.trans (hb9.mono HB8.out.size));have hrk:=qP HR.out HOK.out gw cw (by rw[HN.out];exact hcw) w9 (HW8.out.below hb9 hgw8) (ap hgw8 hb9.size);rw[HN.out] at hrk;have HK9:=hid (HK8.out.far hb9);clear heq hb9 HB8 HW8 HK8
       go_wp2_with fail
       refine hrk.mono ?_;rintro e w10 ⟨ak3,gk3,ck3,rfl,hkn3,hb10⟩;rw[List.length_map,HNL.out];have HB10:=hid (HB9.out.trans (hb10.mono HB9.out.size))
       have het:=li (L.map (·.1)) ak2 ak3 gk2 gk3 ck2 ck3 w10 (HK9.out.far hb10).kds hkn3.kds (fun t ht=>by
        obtain ⟨k,hk,rfl⟩:=List.mem_map.1 ht
        exact (HR.out.ks k hk).le) (by rw[List.length_map,HNL.out];exact hLn)
       rw[List.length_map,HNL.out] at het;clear hrk hb10 hkn3 HB9 HK9
       go_wp2_with fail
       refine het.mono ?_;rintro e w11 ⟨rfl,hb11⟩;have HB11:=hid (HB10.out.trans (hb11.mono HB10.out.size));have haw:=wL w11 (HEn.out.far HB11.out);clear het hb11 HB10
       go_wp2_with fail
       refine haw.mono ?_;rintro e w12 ⟨rfl,hb12⟩;have HB12:=hid (HB11.out.trans (hb12.mono HB11.out.size));clear haw hb12 HB11
       go_wp2
       go_ret
       exact ⟨rfl,HB12.out⟩
end
end Go.Proofs.YtapdbeaoakcjeaaGreatDoor.Se

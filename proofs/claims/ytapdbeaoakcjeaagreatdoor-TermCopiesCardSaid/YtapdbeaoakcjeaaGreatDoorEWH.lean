/- The reference's childSorts and funcAt at the root of a term. -/
import Derived.Test.YtapdbeaoakcjeaaGreatDoorEWF
set_option maxRecDepth 100000
set_option maxHeartbeats 40000000
open Go.Lib (hid)
namespace Go.Proofs.YtapdbeaoakcjeaaGreatDoor.Se
open Go.RowKit Nmx
def o4 (w:World) (e:Ending) (w':World):Prop:=∃a n c,e=.returned (.slice a n c)∧Below w.heap.size w w'
section
theorem mD (T:List Nd) (g cap d:Nat) (x:Nd) (ks:List Nd) (ss:List Int) (Ek:List Nat) (Sk:List Int) (w:World) (he:T=x::ks) (hw:WE 1 d ks ss Ek Sk) (hkn:x.kids=ss.length) (hsz:∀y∈T,y.num.size≤1000) (hd:d≤257) (hT:T.length≤20000) (hN:NodesAt w g T) (hg:g<w.heap.size):
    Calls Tryz.prog 130 #[.slice (some ⟨g,0,none⟩) T.length cap,.int .i64 0] w (o4 w):=by
 obtain ⟨i0,hi,hz0,hz1,hz2⟩:=info_parts infoInt;have HA:Hid (Agr ndZ 0 T 1 ks):=hid (by rw[he];intro i hi;simp[show 1+i=i+1 by omega]);have hlen:T.length=1+ks.length:=by rw[he,au,Nat.add_comm]
 have HC:Hid (∀W,Below w.heap.size w W→W.cell? ⟨g,4,none⟩=some (.int .i64 ss.length)):=hid fun W hW=>by
  have:=(hN.below hW hg) 0 x (by rw[he];rfl) 4 (by omega);simp only[Nd.cells,List.getElem?_cons_succ,List.getElem?_cons_zero,Nat.zero_mul,Nat.zero_add] at this;rw[this,hkn]
 have HN:=hid hN;have HW:=hid hw;have HSZ:=hid hsz;obtain ⟨m,hm⟩:∃m,ss.length=m:=⟨_,rfl⟩
 obtain ⟨n,hnn⟩:∃n,T.length=n:=⟨_,rfl⟩
 have hmn:m≤20000:=by have:=hw.lens;omega
 rw[hm] at HC;have HM:=hid hm;have HNN:=hid hnn;have HLEN:=hid hlen;rw[hnn] at hT ⊢;generalize hB:w.heap.size=B at *;have HBe:=hid hB;have hn1:1≤n:=by omega
 clear hw hN hsz hm hnn hlen he hkn
 go_enter Tryz.func130,Tryz.ntmps130
 go_wp2
 go_loopw [5,6,7] (fun v e i wr=>∃(k q:Nat) (rest:List Nd) (Er:List Nat) (Sr:List Int),k≤m∧e=.int .i64 q∧i=.int .i64 k∧wr.ownsRow B 3 1 v k (aX (ss.take k))∧WE q d rest (ss.drop k) Er Sr∧Agr ndZ 0 T q rest∧q+rest.length=1+ks.length∧Below B w wr) (fun _ _ i _=>m-(intOf i).toNat)
 case atStart=>exact ⟨0,1,ks,Ek,Sk,aE _,rfl,rfl,World.ownsRow_nil _ _ _ _,HW.out,HA.out,rfl,ah _ _⟩
 case round=>
  obtain ⟨k,q,rest,Er,Sr,hk,rfl,rfl,hown,hwe,hag,hlen,hbel⟩:=hrel;have c4:=HC.out wr hbel;have HO:=hid hown;have HBL:=hid hbel;have hBW:B≤wr.heap.size:=aC (by rw[←HBe.out];exact ag _) hbel.size;have hgl:g<wr.heap.size:=ap hg hBW
  by_cases hlt:k<m
  · have hkl:k<ss.length:=by rw[HM.out];exact hlt
    have hltI:(k:Int)<(m:Int):=by omega
    obtain ⟨sv,hsv⟩:∃sv,ss[k]=sv:=⟨_,rfl⟩
    have hdr:ss.drop k=sv::ss.drop (k+1):=by rw[List.drop_eq_getElem_cons hkl,hsv]
    rw[hdr] at hwe;obtain ⟨d',x',ks',ss',rest',Ek',Sk',Er',Sr',rfl,rfl,hwk,hno,hwr⟩:=hwe.step;rw[←List.cons_append] at hag;have hl2:q+1+ks'.length+rest'.length=1+ks.length:=by simp only[au,aA] at hlen;omega
    have hcall:=oZ d' T g cap q x' ks' ss' sv Ek' Sk' 0 wr hwk hno hag.left (by have:=HLEN.out;omega) HSZ.out (by omega) (by rw[HNN.out];omega) (HN.out.below hbel (by omega)) hgl;rw[HNN.out] at hcall;have HWR:=hid hwr;have HAG:Hid (Agr ndZ 0 T (q+1+ks'.length) rest'):=hid (by have:=hag.right;rw[au] at this;rw[show q+1+ks'.length=q+(ks'.length+1) by omega];exact this);have HL2:=hid hl2
    have htk:aX (ss.take (k+1))=aX (ss.take k)++[.int .i64 sv]:=by
     rw[List.take_succ_eq_append_getElem hkl,hsv];simp[aX]
    have HTK:=hid htk;generalize hq':q+1+ks'.length=q' at *;clear hown hwe hag hlen hbel hdr hwk hno hwr hl2 htk hq' hsv
    go_wp2_with fail
    refine hcall.mono ?_;rintro e w2 ⟨rfl,hb2⟩;have HB2:=hid (HBL.out.trans (hb2.mono hBW));have HO2:=hid (iD HO.out hb2 (ag _));have hBW2:=aC hBW hb2.size;clear hcall hb2 c4 hgl
    go_wp2_with (at_builtin;refine wpList_append_own _ rfl (.tmp 27) (.tmp 29) 23 rfl B 3 i0 (.int .i64 0) 1 8 Tryz.underlying23 hi hz0 hz1 hz2 rfl (by decide) _ k _ rfl (HO2.out.alloc _) ⟨w2.heap.size,0,none⟩ 1 1 [.int .i64 sv] rfl rfl (World.news_of_block (cs:=#[.int .i64 sv]) (t:=3) (fr:=(0,0)) (heap_alloc_new w2 _)) (by simp[Value.oneCell']) (by unfold maxLen;omega) (by omega) (by simp;omega) ?_)
    intro v' w3 hown' hgrow _;have HB3:=hid ((HB2.out.trans ((aD w2 _).mono hBW2)).grown hgrow (by simp;omega) (fun k e=>(HO2.out.lt k e).1));have HO3:Hid (w3.ownsRow B 3 1 v' (k+1) (aX (ss.take (k+1)))):=hid (by rw[HTK.out];exact hown');clear hown' hgrow
    go_wp2
    go_roundw
    case rel=>exact ⟨k+1,q',rest',Er',Sr',by omega,rfl,by go_num,HO3.out,HWR.out,HAG.out,HL2.out,HB3.out⟩
    case measure=>simp[intOf];omega
  · obtain ⟨av,cv,rfl⟩:=bL hown;have hkm:(m:Int)≤(k:Int):=by omega
    clear hown hwe hag hlen hbel HO
    go_wp2
    go_ret
    exact ⟨_,_,_,rfl,by rw[HBe.out];exact HBL.out⟩
theorem eb {w:World} {R:Nat} {cs:Array Value} {t:TypeId} (h:w.heap[R]? =some (.cells cs t (0,0))) (i:Nat):w.frozen? ⟨R,i,none⟩=false:=by
 unfold World.frozen?;rw[h]
 simp
theorem qG {w:World} {B g:Nat} (hne:g≠B) (i j k l:Nat) (a b c:Value):(((w.setCell ⟨B,i,none⟩ a).setCell ⟨B,j,none⟩ b).setCell ⟨B,k,none⟩ c).cell? ⟨g,l,none⟩=w.cell? ⟨g,l,none⟩:=
 World.cell?_of_block (((aB _ _ _ _ hne).trans (aB _ _ _ _ hne)).trans (aB _ _ _ _ hne))
theorem sd (g cap n:Nat) (sort:Int) (name:ByteArray) (w:World) (hn:1≤n) (hnx:n≤20000) (hg:g<w.heap.size) (h1:w.cell? ⟨g,1,none⟩=some (.int .i64 sort)) (h2:w.cell? ⟨g,2,none⟩=some (.string name))
    (hcs:∀W,Below w.heap.size w W→Calls Tryz.prog 130 #[.slice (some ⟨g,0,none⟩) n cap,.int .i64 0] W (o4 W)):
    Calls Tryz.prog 93 #[.slice (some ⟨g,0,none⟩) n cap,.int .i64 0] w fun e w'=>∃a k c,e=.returned (.agg #[.string name,.slice a k c,.int .i64 sort])∧Below w.heap.size w w':=by
 have HC:=hid hcs;clear hcs;have hn0:(0:Int)<(n:Int):=by omega
 have hn2:0<n:=by omega
 go_enter Tryz.func93,Tryz.ntmps93
 go_wp2
 have hal:=aD w (.cells #[.string ⟨#[]⟩,.slice none 0 0,.int .i64 0] 117);have hbx:=heap_alloc_new w (.cells #[.string ⟨#[]⟩,.slice none 0 0,.int .i64 0] 117);have hS1:(w.alloc (.cells #[.string ⟨#[]⟩,.slice none 0 0,.int .i64 0] 117)).heap.size=w.heap.size+1:=by simp
 have c1:=(hal.cell (p:=⟨g,1,none⟩) hg).trans h1;have c2:=(hal.cell (p:=⟨g,2,none⟩) hg).trans h2;generalize w.alloc (.cells #[.string ⟨#[]⟩,.slice none 0 0,.int .i64 0] 117)=w0 at *;have hcs:=HC.out w0.drew (aQ hal 1);have HAL:=hid hal;have HBX:=hid hbx;have x0:=ac hbx 0;have x1:=ac hbx 1;have x2:=ac hbx 2;have z0:=eb hbx 0;have z1:=eb hbx 1;have z2:=eb hbx 2;clear HC hal h1 h2;have hgS:g≠w.heap.size:=by omega
 go_region_held3 (fun w'=>w'.cell? ⟨g,1,none⟩=some (.int .i64 sort)∧w'.cell? ⟨g,2,none⟩=some (.string name)) (first | exact ⟨q1,q2⟩ | exact ⟨c1,c2⟩ | exact ⟨(qG hgS _ _ _ _ _ _ _).trans q1,(qG hgS _ _ _ _ _ _ _).trans q2⟩ | go_keep) ((go_at_call 130;refine hcs.mono ?_;rintro e w3 ⟨a,k,c,rfl,hb3⟩;have q1:=(hb3.cell (p:=⟨g,1,none⟩) (by show g<w0.heap.size;omega)).trans c1;have q2:=(hb3.cell (p:=⟨g,2,none⟩) (by show g<w0.heap.size;omega)).trans c2;have q3:=(hb3.block _ (by show w.heap.size<w0.heap.size;omega)).trans HBX.out;have x0:=ac q3 0;have x1:=ac q3 1;have x2:=ac q3 2;have z0:=eb q3 0;have z1:=eb q3 1;have z2:=eb q3 2;have HB3:=hid hb3;clear hb3))
 have hst:=heap_set (heap_set (heap_set q3 0 (.string name)) 1 (.slice a k c)) 2 (.int .i64 sort);have HB5:Hid (Below w.heap.size w (((w3.setCell ⟨w.heap.size,0,none⟩ (.string name)).setCell ⟨w.heap.size,1,none⟩ (.slice a k c)).setCell ⟨w.heap.size,2,none⟩ (.int .i64 sort))):=hid (((((aQ HAL.out 1).trans (HB3.out.mono (by show w.heap.size≤w0.heap.size;omega))).setCell (show w.heap.size≤w.heap.size from ag _) _).setCell (show w.heap.size≤w.heap.size from ag _) _).setCell (show w.heap.size≤w.heap.size from ag _) _);generalize ((w3.setCell ⟨w.heap.size,0,none⟩ (.string name)).setCell ⟨w.heap.size,1,none⟩ (.slice a k c)).setCell ⟨w.heap.size,2,none⟩ (.int .i64 sort)=w5 at *;have y0:w5.cell? ⟨w.heap.size,0,none⟩=some (.string name):=(ac hst 0).trans rfl;have y1:w5.cell? ⟨w.heap.size,1,none⟩=some (.slice a k c):=(ac hst 1).trans rfl;have y2:w5.cell? ⟨w.heap.size,2,none⟩=some (.int .i64 sort):=(ac hst 2).trans rfl;clear hst HB3 q1 q2 q3 x0 x1 x2 z0 z1 z2
 go_wp2
 refine bodyPost_ret (v:=.agg #[.string name,.slice a k c,.int .i64 sort]) ?_ rfl ⟨a,k,c,rfl,HB5.out⟩
 simp[results,Tryz.results93,go_sem,y0,y1,y2]
end
end Go.Proofs.YtapdbeaoakcjeaaGreatDoor.Se
/- The reference's test that names are used in one way, where a function may stand at the root. -/
namespace Go.Proofs.YtapdbeaoakcjeaaGreatDoor.Se
open Go.RowKit Nmx
theorem te:(Tryz.prog.info? 46).map (fun i=>(i.zero,i.size,i.bytes))=some (some (.agg #[.string ⟨#[]⟩,.int .i64 0]),2,24):=by kernel_rfl
def vrs (U:List (ByteArray×Int)):List Value:=U.flatMap fun p=>[.string p.1,.int .i64 p.2]
theorem tf (U V:List (ByteArray×Int)):vrs (U++V)=vrs U++vrs V:=by simp[vrs]
theorem lD:∀(U:List (ByteArray×Int)) (j:Nat) (p:ByteArray×Int),U[j]? =some p→(vrs U)[j*2]? =some (.string p.1)∧(vrs U)[j*2+1]? =some (.int .i64 p.2):=by
 intro U
 induction U with
 | nil=>intro j p h;cases h
 | cons a U ih=>
   intro j p h;have e:vrs (a::U)=.string a.1::.int .i64 a.2::vrs U:=rfl;cases j with
   | zero=>rw[List.getElem?_cons_zero] at h;cases h;exact ⟨rfl,rfl⟩
   | succ j=>
     rw[List.getElem?_cons_succ] at h;have:=ih j p h;rw[e,show (j+1)*2=j*2+2 by omega];exact this
structure UV1 (B g i:Nat) (op sort:Int) (name:ByteArray) (w:World) (v:Value) (U:List (ByteArray×Int)) (W:World):Prop where
 c0:W.cell? ⟨g,i*5,none⟩=some (.int .i64 op)
 c1:W.cell? ⟨g,i*5+1,none⟩=some (.int .i64 sort)
 c2:W.cell? ⟨g,i*5+2,none⟩=some (.string name)
 lt:g<B
 hs:B≤W.heap.size
 bel:Below B w W
 row:W.ownsRow B 46 2 v U.length (vrs U)
theorem UV1.far {B g i:Nat} {op sort:Int} {name:ByteArray} {w:World} {v:Value} {U:List (ByteArray×Int)} {W W':World} (h:UV1 B g i op sort name w v U W) (hb:Below W.heap.size W W'):UV1 B g i op sort name w v U W':=
 have hl:=ap h.lt h.hs
 ⟨(hb.cell (p:=⟨g,i*5,none⟩) hl).trans h.c0,(hb.cell (p:=⟨g,i*5+1,none⟩) hl).trans h.c1,(hb.cell (p:=⟨g,i*5+2,none⟩) hl).trans h.c2,h.lt,aC h.hs hb.size,h.bel.trans (hb.mono h.hs),iD h.row hb (ag _)⟩
theorem UV1.drew {B g i:Nat} {op sort:Int} {name:ByteArray} {w:World} {v:Value} {U:List (ByteArray×Int)} {W:World} (h:UV1 B g i op sort name w v U W):UV1 B g i op sort name w v U W.drew:=
 ⟨h.c0,h.c1,h.c2,h.lt,h.hs,aQ h.bel 1,h.row⟩
theorem UV1.drewN {B g i:Nat} {op sort:Int} {name:ByteArray} {w:World} {v:Value} {U:List (ByteArray×Int)} {W:World} (h:UV1 B g i op sort name w v U W) (n:Nat):UV1 B g i op sort name w v U (W.drewN n):=
 ⟨h.c0,h.c1,h.c2,h.lt,h.hs,aQ h.bel n,h.row⟩
theorem UV1.grow {B g i:Nat} {op sort:Int} {name:ByteArray} {w:World} {v v':Value} {U U':List (ByteArray×Int)} {W W':World} (h:UV1 B g i op sort name w v U W) (hg:W.grownBy W' v.ownBlock) (hr:W'.ownsRow B 46 2 v' U'.length (vrs U')):UV1 B g i op sort name w v' U' W':=by
 have hl:=ap h.lt h.hs
 have hne:∀j,W'.cell? ⟨g,j,none⟩=W.cell? ⟨g,j,none⟩:=fun j=>by
  rw[World.cell?,World.cell?,hg.block g hl (fun e=>by have:=(h.row.lt g e.symm).1;have:=h.lt;omega)]
 exact ⟨(hne _).trans h.c0,(hne _).trans h.c1,(hne _).trans h.c2,h.lt,aC h.hs hg.size,h.bel.grown hg h.hs (fun k e=>(h.row.lt k e).1),hr⟩
theorem wU:(Tryz.prog.info? 117).map (fun i=>(i.zero,i.size,i.bytes))=some (some (.agg #[.string ⟨#[]⟩,.slice none 0 0,.int .i64 0]),3,48):=by kernel_rfl
def FRow (V:List (ByteArray×Int)) (f:Value) (nf:Nat) (W:World):Prop:=
 (nf=0∧f=.slice none 0 0)∨(nf=1∧∃gf cf nm,f=.slice (some ⟨gf,0,none⟩) 1 cf∧gf<W.heap.size∧W.cell? ⟨gf,0,none⟩=some (.string nm)∧bh nm V=none)
theorem FRow.far {V:List (ByteArray×Int)} {f:Value} {nf:Nat} {W W':World} (h:FRow V f nf W) (hb:Below W.heap.size W W'):FRow V f nf W':=by
 rcases h with h | ⟨h,gf,cf,nm,h1,h2,h3,h4⟩
 · exact .inl h
 · exact .inr ⟨h,gf,cf,nm,h1,ap h2 hb.size,(hb.cell (p:=⟨gf,0,none⟩) h2).trans h3,h4⟩
structure UE (V:List (ByteArray×Int)) (B:Nat) (w:World) (B1:Nat) (v:Value) (U:List (ByteArray×Int)) (f:Value) (nf:Nat) (W:World):Prop where
 row:W.ownsRow B1 46 2 v U.length (vrs U)
 fr:FRow V f nf W
 bel:Below B w W
 us:∀p∈U,bh p.1 V=some p.2
 hs:B1≤W.heap.size
theorem UE.drewN {V:List (ByteArray×Int)} {B:Nat} {w:World} {B1:Nat} {v:Value} {U:List (ByteArray×Int)} {f:Value} {nf:Nat} {W:World} (h:UE V B w B1 v U f nf W) (n:Nat):UE V B w B1 v U f nf (W.drewN n):=
 ⟨h.row,h.fr.far (aQ (ah _ _) n),aQ h.bel n,h.us,h.hs⟩
section
theorem kN (V:List (ByteArray×Int)) (T:List Nd) (g cap:Nat) (w:World) (hN:NodesAt w g T) (hg:g<w.heap.size) (hT:T.length≤20000) (hV:∀(k:Nat) (x:Nd),T[k]? =some x→(x.op≠5∧(x.op=4→bh x.name V=some x.sort))∨(k=0∧x.op=5∧bh x.name V=none))
    (hcs:∀x,T[0]? =some x→x.op=5→∀W,Below w.heap.size w W→Calls Tryz.prog 130 #[.slice (some ⟨g,0,none⟩) T.length cap,.int .i64 0] W (o4 W)):
    Calls Tryz.prog 53 #[.slice (some ⟨g,0,none⟩) T.length cap] w fun e w'=>e=.returned (.bool true)∧Below w.heap.size w w':=by
 obtain ⟨i0,hi,hz0,hz1,hz2⟩:=info_parts te;obtain ⟨i1,ji,jz0,jz1,jz2⟩:=info_parts wU;have HN:=hid hN;have HV:=hid hV;obtain ⟨n,hnn⟩:∃n,T.length=n:=⟨_,rfl⟩
 have HNN:=hid hnn;rw[hnn] at hT hcs ⊢;have HCS:=hid hcs;clear hN hV hnn hcs;generalize hB:w.heap.size=B at *;have HBe:=hid hB
 go_enter Tryz.func53,Tryz.ntmps53
 go_wp2
 go_loopw [3,4,5] (fun v f i wr=>∃(k nf:Nat) (U:List (ByteArray×Int)) (w1:World),k≤n∧FRow V f nf w1∧i=.int .i64 k∧U.length≤k∧(∀p∈U,bh p.1 V=some p.2)∧wr.ownsRow w1.heap.size 46 2 v U.length (vrs U)∧Below B w w1∧Below w1.heap.size w1 wr∧(k=0→nf=0∧U=[]∧v=.slice none 0 0)) (fun _ _ i _=>n-(intOf i).toNat)
 case atStart=>exact ⟨0,0,[],w,aE _,.inl ⟨rfl,rfl⟩,rfl,aE _,(fun p h=>by cases h),World.ownsRow_nil _ _ _ _,ah _ _,ah _ _,fun _=>⟨rfl,rfl,rfl⟩⟩
 case round=>
  obtain ⟨k,nf,U,w1,hk,hfr,rfl,hUk,hU,hrow,hb1,hbel,hz⟩:=hrel;have HU:=hid hU;have HF:=hid hfr;have HB1:=hid hb1;have hB1:B≤w1.heap.size:=by have:=hb1.size;omega
  have hg1:g<w1.heap.size:=by omega
  have hbs:w1.heap.size≤wr.heap.size:=hbel.size
  by_cases hlt:k<n
  · have hltI:(k:Int)<(n:Int):=by omega
    have hkT:k<T.length:=by rw[HNN.out];exact hlt
    have hx:T[k]? =some T[k]:=aq hkT;have hnm:=HV.out k T[k] hx;have hNw:=(HN.out.below hb1 hg).below hbel hg1;have d0:=hNw k T[k] hx 0 (by decide);have d1:=hNw k T[k] hx 1 (by decide);have d2:=hNw k T[k] hx 2 (by decide);generalize T[k]=x at *;obtain ⟨op,sort,name,num,kids⟩:=x;have HX:Hid (UV1 w1.heap.size g k op sort name w1 u3 U wr):=hid ⟨d0,d1,d2,hg1,hbs,hbel,hrow⟩;simp only at hnm;rcases hnm with hnm | ⟨rfl,rfl,hlk⟩
    rotate_left
    · obtain ⟨rfl,rfl,rfl⟩:=hz rfl
      obtain rfl:u4=.slice none 0 0:=by
       rcases hfr with ⟨-,h⟩ | ⟨h,-⟩
       · exact h
       · cases h
      have c0:wr.cell? ⟨g,0,none⟩=some (.int .i64 5):=d0;rw[show ((0:Nat):Int)=0 from rfl] at hltI ⊢;have hbw:Below B w wr:=hb1.trans (hbel.mono hB1);have hfa:=sd g cap n sort name wr (by omega) hT (by omega) d1 d2 (fun W hW=>HCS.out _ hx rfl W (hbw.trans (hW.mono (by omega))));have HBW:=hid hbw;have HLK:=hid hlk;clear hU hrow hbel hNw hx d0 d1 d2 hfr hb1 hz HX HF HB1 hbw hlk
      go_wp2_with fail
      refine hfa.mono ?_;rintro e w2 ⟨a,kk,c,rfl,hb2⟩;have HB2:=hid (HBW.out.trans (hb2.mono (by have:=HBW.out.size;omega)));have hal:=aD w2 (.cells #[.string name,.slice a kk c,.int .i64 sort] 117);have hbx:=heap_alloc_new w2 (.cells #[.string name,.slice a kk c,.int .i64 sort] 117);have y0:=ac hbx 0;have y1:=ac hbx 1;have y2:=ac hbx 2;have hs2:=HB2.out.size;have HB3:Hid (Below B w (w2.alloc (.cells #[.string name,.slice a kk c,.int .i64 sort] 117))):=hid (HB2.out.trans (hal.mono (by omega)));clear hb2 hfa HB2 hal hbx HBW
      go_wp2
      generalize w2.alloc (.cells #[.string name,.slice a kk c,.int .i64 sort] 117)=w3 at *;generalize w2.heap.size=S2 at *
      go_loop [9,10] (fun b i=>b=.bool false∧i=.int .i64 0) (fun _ _=>0)
      case atStart=>exact ⟨rfl,rfl⟩
      case round=>
       obtain ⟨rfl,rfl⟩:=hrel
       go_wp2_with (at_builtin;refine wpList_append_own _ rfl (.tmp 110) (.tmp 112) 82 rfl (w3.heap.size+1) 117 i1 _ 3 48 Tryz.underlying82 ji jz0 jz1 jz2 rfl (by decide) _ 0 _ rfl (World.ownsRow_nil _ _ _ _) ⟨w3.heap.size,0,none⟩ 1 1 [.string name,.slice a kk c,.int .i64 sort] rfl rfl (World.news_of_block (cs:=#[.string name,.slice a kk c,.int .i64 sort]) (t:=117) (fr:=(0,0)) (heap_alloc_new w3 _)) (by simp[Value.oneCell']) (by unfold maxLen;omega) (by omega) (by simp) ?_)
       intro v' w4 hown' hgrow _;have hb4:Below w3.heap.size w3 w4:=(aD w3 _).grown hgrow (by simp) (fun k e=>by cases e);obtain ⟨gf,cf,rfl,-,-,-⟩:=aS hown' (by omega);have HF4:Hid (FRow V (.slice (some ⟨gf,0,none⟩) (0+1) cf) 1 w4):=hid (.inr ⟨rfl,gf,cf,name,rfl,(hown'.lt gf rfl).2,(hown'.cellAt 0 (by simp)).trans rfl,HLK.out⟩);have HB4:=hid (HB3.out.trans (hb4.mono (by have:=HB3.out.size;omega)));clear hown' hgrow hb4
       go_wp2
       go_roundw
       case rel=>exact ⟨1,1,[],w4,hlt,HF4.out,rfl,aE _,(fun p h=>by cases h),World.ownsRow_nil _ _ _ _,HB4.out,ah _ _,fun e=>absurd e (by omega)⟩
       case measure=>simp[intOf];omega
    have c0:wr.cell? ⟨g,k*5,none⟩=some (.int .i64 op):=d0;clear hU hrow hbel hNw hx d0 d1 d2 hz hb1 hfr
    by_cases h4:op=4
    · subst h4;have hlk:=hnm.2 rfl;have HLK:=hid hlk;clear hnm hlk
      go_wp2
      go_loopw [6,7] (fun b j wr=>∃(bb:Bool) (q:Nat),b=.bool bb∧j=.int .i64 q∧q≤U.length∧UV1 w1.heap.size g k 4 sort name w1 u3 U wr) (fun _ j _=>U.length-(intOf j).toNat)
      case atStart=>exact ⟨false,0,rfl,rfl,aE _,HX.out⟩
      case round=>
       clear HX;obtain ⟨bb,q,rfl,rfl,hq,hX⟩:=hrel;have HX:=hid hX;obtain ⟨gv0,cv0,hv0⟩:=bL hX.row
       by_cases hql:q<U.length
       · obtain ⟨gv,cv,rfl,-,-,-⟩:=aS hX.row (by omega);obtain ⟨hn1,hn2⟩:=lD U q U[q] (aq hql);have e1:_root_.Go.World.cell? wr ⟨gv,q*2,none⟩=_:=(hX.row.cellAt (q*2) (by omega)).trans hn1;have e2:_root_.Go.World.cell? wr ⟨gv,q*2+1,none⟩=_:=(hX.row.cellAt (q*2+1) (by omega)).trans hn2;have hlu:=HU.out U[q] (List.getElem_mem hql);have hc1:=hX.c1;have hc2:=hX.c2;generalize U[q]=pq at *;obtain ⟨kq,sq⟩:=pq;simp only at e1 e2 hlu;obtain ⟨ul,hul⟩:∃ul,U.length=ul:=⟨_,rfl⟩
         have hqI:(q:Int)<(ul:Int):=by omega
         clear hX hn1 hn2 hv0
         by_cases hkn:kq=name
         · subst hkn;have hss:sq=sort:=by rw[HLK.out] at hlu;exact (aG hlu).symm
           subst hss;clear hlu;have hul':ul≤n:=by omega
           rw[hul] at hq HX ⊢;have HUL:=hid hul;clear hul
           go_wp2
           go_quiet (fail)
           rename_i nq
           go_wp2
           go_quiet (fail)
           rename_i nq2
           go_wp2
           go_roundw
           case rel=>exact ⟨true,q+1,rfl,by go_num,by omega,HX.out.drewN _⟩
           case measure=>simp[intOf];omega
         · have hkf:(kq.toList==name.toList)=false:=by rw[beq_eq_false_iff_ne];exact fun e=>hkn ((jJ e).trans (jJ rfl).symm)
           clear hlu;have hul':ul≤n:=by omega
           rw[hul] at hq HX ⊢;have HUL:=hid hul;clear hul
           go_wp2
           go_quiet (fail)
           rename_i nq
           go_wp2
           go_roundw
           case rel=>exact ⟨bb,q+1,rfl,by go_num,by omega,HX.out.drewN _⟩
           case measure=>simp[intOf];omega
       · subst hv0;have hqe:(U.length:Int)≤(q:Int):=by omega
         cases bb
         · have HAA:Hid (∀p∈U++[(name,sort)],bh p.1 V=some p.2):=hid (fun p hp=>by
             rcases List.mem_append.1 hp with hp | hp
             · exact HU.out p hp
             · rw[List.mem_singleton] at hp;subst hp;exact HLK.out)
           obtain ⟨ul,hul⟩:∃ul,U.length=ul:=⟨_,rfl⟩
           rw[hul] at hq hql hqe HX hUk ⊢;have HUL:=hid hul;clear hX hul
           go_wp2
           refine aV [[],[],[],[1,2],[1,2,3],[1,2,3,4],[],[],[6,7],[6,7,8],[6,7,8,9],[1,2,3,4,5,6,7,8,9,10],[1,2,3,4,5,6,7,8,9,10,11],[0,1,2,3,4,5,6,7,8,9,10,11,12],[0,1,2,3,4,5,6,7,8,9,10,11,12,13]] (fun W=>UV1 w1.heap.size g k 4 sort name w1 (.slice gv0 ul cv0) U W) (fun _=>True) ?_
           iterate 12
            apply aR
            · intro x;go_simp;done
            · intro x W R hW hF hR;have hc1:=hW.c1;have hc2:=hW.c2;clear hF;unfold aN
              go_simp
              simp only[aF];exact hR _ (ah _ _)
            simp only[Act.put,aa,aj,am]
           refine cY (fun u W=>∃B,u=.slice (some ⟨B,0,none⟩) 1 1∧W.heap[B]? =some (.cells #[.string name,.int .i64 sort] 46 (0,0))) (fun _ _ _ h hb=>let ⟨B,h1,h2⟩:=h;⟨B,h1,(hb.block _ (ay h2)).trans h2⟩) ?_ ?_ ?_
           · intro x;go_simp;done
           · intro x W R hW hF hR;clear hF;unfold aN
             go_simp
             simp only[aF];exact hR _ _ ⟨W.heap.size,rfl,heap_alloc_new W _⟩ (aD W _)
           simp only[Act.put,aa,aj,am,au,aH,Nat.zero_add,Nat.reduceAdd];refine fG (fun x W=>UV1 w1.heap.size g k 4 sort name w1 (x 13) (U++[(name,sort)]) W) (fun _ _ _ h hb=>h.far hb) (fun x x' w h hT=>by have e:=h 13 (.inl rfl);rw[e] at hT;exact hT) ?_ ?_ ?_
           · intro x;go_simp;done
           · intro x W R hW hF hD hR;obtain ⟨B2,hx2,hB2⟩:=hF.1.2 rfl rfl rfl;clear hF;simp only[hx2];have hrw:=hW.row;rw[HUL.out] at hrw;refine dJ (.tmp 56) (.tmp 68) 47 rfl w1.heap.size 46 i0 _ 2 24 Tryz.underlying47 hi hz0 hz1 hz2 rfl (by decide) (.slice gv0 ul cv0) ul (vrs U) rfl hrw ⟨B2,0,none⟩ 1 1 [.string name,.int .i64 sort] rfl rfl (World.news_of_block (cs:=#[.string name,.int .i64 sort]) (t:=46) (fr:=(0,0)) hB2) (by simp[Value.oneCell']) (by unfold maxLen;omega) (by omega) hW.hs ?_;intro v' w' hrow hg;refine hR _ _ ?_ trivial hg.size;show UV1 w1.heap.size g k 4 sort name w1 (bM x 13 v' 13) (U++[(name,sort)]) w';rw[bp];refine hW.grow hg ?_;rw[aA,HUL.out,tf];exact hrow
           simp only[Act.put,aa,aj,am,au,aH,Nat.zero_add,Nat.reduceAdd];refine ez (fun x=>x 14=x 13) (fun x x' hx h=>by rw[←hx 14 (.inl rfl),←hx 13 (.inr (List.contains_iff_mem.1 rfl))];exact h) ?_ ?_ ?_
           · intro x;go_simp;done
           · intro x W R hW hF hR;clear hF hW;unfold aN
             go_simp
             simp only[aF];refine hR _ _ ?_ (ah _ _);show bM x 14 _ 14=bM x 14 _ 13;rw[bp,bC (i:=14) (j:=13) _ _ (by decide)]
           simp only[Act.put,aa,aj,am,au,aH,Nat.zero_add,Nat.reduceAdd];refine cz (by kernel_rfl) (by kernel_rfl) (by kernel_rfl) (fun _ _ h hb=>h.far hb) (fun _ _ _ _=>trivial) (fun _ _=>trivial) (HX.out.far (ah _ _).drew) ?_;intro x W hE hW hF hD;clear hD;have hY:=hF.2.1.2 rfl;have hx14:=hF.1.1;simp only[AK.free] at hx14;simp only[AK.fact] at hY;clear hF hW;simp only[hx14];generalize x 13=v13 at *
           go_wp2
           go_roundw
           case rel=>exact ⟨k+1,nf,U++[(name,sort)],w1,by omega,HF.out,by go_num,by rw[aA,HUL.out];simp;omega,HAA.out,hY.row,HB1.out,hY.bel,fun e=>absurd e (by omega)⟩
           case measure=>simp[intOf];omega
         · go_wp2
           go_roundw
           case rel=>exact ⟨k+1,nf,U,w1,by omega,HF.out,by go_num,by omega,HU.out,HX.out.row,HB1.out,HX.out.bel,fun e=>absurd e (by omega)⟩
           case measure=>simp[intOf];omega
    · have h4f:(op==4)=false:=by simp[h4]
      have h5f:(op==5)=false:=by simp[hnm.1]
      have h5:=hnm.1;clear hnm
      go_wp2
      go_roundw
      case rel=>exact ⟨k+1,nf,U,w1,by omega,HF.out,by go_num,by omega,HU.out,HX.out.row,HB1.out,HX.out.bel,fun e=>absurd e (by omega)⟩
      case measure=>simp[intOf];omega
  · obtain ⟨av,cv,rfl⟩:=bL hrow;have HE:Hid (UE V B w w1.heap.size (.slice av U.length cv) U u4 nf wr):=hid ⟨hrow,hfr.far hbel,hb1.trans (hbel.mono hB1),hU,hbel.size⟩;obtain ⟨ul,hul⟩:∃ul,U.length=ul:=⟨_,rfl⟩
    rw[hul] at hUk HE ⊢;have HUL:=hid hul;have hul2:ul≤n:=by omega
    obtain ⟨af,cf,hu4,hnf⟩:∃af cf,u4=.slice af nf cf∧nf≤1:=by
     rcases hfr with ⟨rfl,h⟩ | ⟨rfl,gf,cf,nm,h,-⟩
     · exact ⟨_,_,h,aE _⟩
     · exact ⟨_,_,h,ag _⟩
    subst hu4;clear hU hrow hbel hul HU HF hfr hb1 hz;generalize w1.heap.size=B1 at *
    go_wp2
    go_loopw [11] (fun i wr=>∃q:Nat,q≤ul∧i=.int .i64 q∧UE V B w B1 (.slice av ul cv) U (.slice af nf cf) nf wr) (fun i _=>ul-(intOf i).toNat)
    case atStart=>exact ⟨0,aE _,rfl,HE.out⟩
    case round=>
     clear HE;obtain ⟨q,hq,rfl,hE⟩:=hrel;have HE:=hid hE;clear hE
     by_cases hql:q<ul
     · have hqlI:(q:Int)<(ul:Int):=by omega
       go_wp2
       go_loopw [12] (fun i wr=>∃r:Nat,r≤nf∧i=.int .i64 r∧UE V B w B1 (.slice av ul cv) U (.slice af nf cf) nf wr) (fun i _=>nf-(intOf i).toNat)
       case atStart=>exact ⟨0,aE _,rfl,HE.out⟩
       case round=>
        clear HE;obtain ⟨r,hr,rfl,hE⟩:=hrel;have HE:=hid hE
        by_cases hrl:r<nf
        · obtain rfl:r=0:=by omega
          obtain rfl:nf=1:=by omega
          have hqU:q<U.length:=by rw[HUL.out];exact hql
          have hrow:=hE.row;rw[HUL.out] at hrow;obtain ⟨gv,cv',hve,-,-,-⟩:=aS hrow (by omega);injection hve with e1 e2 e3;subst e1;subst e3;have e1:_root_.Go.World.cell? wr ⟨gv,q*2,none⟩=_:=(hrow.cellAt (q*2) (by omega)).trans (lD U q U[q] (aq hqU)).1;have hlu:=hE.us U[q] (List.getElem_mem hqU)
          obtain ⟨gf,cf',nm,hfe,hgf,hcf,hlf⟩:∃gf cf' nm,(.slice af 1 cf:Value)=.slice (some ⟨gf,0,none⟩) 1 cf'∧gf<wr.heap.size∧wr.cell? ⟨gf,0,none⟩=some (.string nm)∧bh nm V=none:=by
           rcases hE.fr with ⟨h,-⟩ | ⟨-,h⟩
           · cases h
           · exact h
          injection hfe with f1 f2 f3;subst f1;subst f3;generalize U[q]=pq at *;obtain ⟨kq,sq⟩:=pq;simp only at e1 hlu
          have hkf:(kq.toList==nm.toList)=false:=by
           rw[beq_eq_false_iff_ne];intro e;have e2:=(jJ e).trans (jJ rfl).symm;rw[e2,hlf] at hlu;cases hlu
          clear hE hrow hlu hlf;rw[show ((0:Nat):Int)=0 from rfl]
          go_wp2
          go_quiet (fail)
          rename_i nq
          go_wp2
          go_roundw
          case rel=>exact ⟨1,ag _,rfl,HE.out.drewN _⟩
          case measure=>simp[intOf]
        · have hrn:(nf:Int)≤(r:Int):=by omega
          clear hE
          go_wp2
          go_roundw
          case rel=>exact ⟨q+1,by omega,by go_num,HE.out⟩
          case measure=>simp[intOf];omega
     · have hqn:(ul:Int)≤(q:Int):=by omega
       go_wp2
       go_ret
       exact ⟨rfl,HE.out.bel⟩
end
end Go.Proofs.YtapdbeaoakcjeaaGreatDoor.Se
/- The reference's test that names are used in one way, where there are no functions. -/
namespace Go.Proofs.YtapdbeaoakcjeaaGreatDoor.Se
open Go.RowKit Nmx
theorem se (V:List (ByteArray×Int)) (T:List Nd) (g cap:Nat) (w:World) (hN:NodesAt w g T) (hg:g<w.heap.size) (hT:T.length≤20000) (hV:Nm V T):
    Calls Tryz.prog 53 #[.slice (some ⟨g,0,none⟩) T.length cap] w fun e w'=>e=.returned (.bool true)∧Below w.heap.size w w':=
 kN V T g cap w hN hg hT (fun _ x hx=>.inl (hV x (List.mem_of_getElem? hx))) (fun x hx h5=>absurd h5 (hV x (List.mem_of_getElem? hx)).1)
end Go.Proofs.YtapdbeaoakcjeaaGreatDoor.Se
/- The reference's SortOf, ValidTerm, Join, Num1, Bool1. -/
namespace Go.Proofs.YtapdbeaoakcjeaaGreatDoor.Se
open Go.RowKit Nmx
section
theorem jR (d:Nat) (T:List Nd) (s:Int) (g cap:Nat) (w:World) (hw:WT d T s) (hd:d≤257) (hl:T.length≤20000) (hsz:∀y∈T,y.num.size≤1000) (hN:NodesAt w g T) (hg:g<w.heap.size)
    (hu:∀w',Below w.heap.size w w'→Calls Tryz.prog 53 #[.slice (some ⟨g,0,none⟩) T.length cap] w' fun e w''=>e=.returned (.bool true)∧Below w'.heap.size w' w''):
    Calls Tryz.prog 29 #[.slice (some ⟨g,0,none⟩) T.length cap] w fun e w'=>e=.returned (.int .i64 s)∧Below w.heap.size w w':=by
 obtain ⟨E,S,hwe⟩:=hw;have hs1:=(hwe.sorts s (by simp)).1;have hwe0:=hwe;obtain ⟨d',x,ks,ss,rest',Ek,Sk,Er,Sr,rfl,rfl,hk,hno,hr⟩:=hwe.step;obtain rfl:rest'=[]:=by cases hr;rfl
 have HU:=hid hu;clear hu;rw[List.append_nil] at hl hsz hN HU ⊢;have hlen:(x::ks).length=0+1+ks.length:=by rw[au];omega
 have ht:=oZ d' (x::ks) g cap 0 x ks ss s Ek Sk 0 w hk hno (fun i hi=>by simp) (by omega) hsz (by omega) (by omega) hN hg;rw[←hlen] at ht;generalize (x::ks).length=n at *;have hn0:¬(20000:Int)<(n:Int):=by omega
 have hs0:¬s=0:=by omega
 have hse:(s==0)=false:=by simp[hs0]
 clear hwe hwe0 hk hno hr hN hsz hlen
 go_enter Tryz.func29,Tryz.ntmps29
 go_wp2_with fail
 refine ht.mono ?_;rintro e w1 ⟨rfl,hb1⟩;have hu:=HU.out w1 hb1;have HB:=hid hb1;clear ht hb1
 go_wp2_with fail
 refine hu.mono ?_;rintro e w2 ⟨rfl,hb2⟩;have HB2:=hid (HB.out.trans (hb2.mono HB.out.size));clear hb2 hu
 go_wp2
 go_ret
 exact ⟨rfl,HB2.out⟩
theorem jS (V:List (ByteArray×Int)) (d:Nat) (T:List Nd) (s:Int) (g cap:Nat) (w:World) (hw:WT d T s) (hd:d≤257) (hl:T.length≤20000) (hV:Nm V T) (hsz:∀y∈T,y.num.size≤1000) (hN:NodesAt w g T) (hg:g<w.heap.size):
    Calls Tryz.prog 29 #[.slice (some ⟨g,0,none⟩) T.length cap] w fun e w'=>e=.returned (.int .i64 s)∧Below w.heap.size w w':=
 jR d T s g cap w hw hd hl hsz hN hg fun w' hb=>se V T g cap w' (hN.below hb hg) (ap hg hb.size) hl hV
theorem gI {T:List Nd} {d:Nat} {s:Int} {g cap:Nat} {w:World} (hw:WT d T s)
    (h:Calls Tryz.prog 29 #[.slice (some ⟨g,0,none⟩) T.length cap] w fun e w'=>e=.returned (.int .i64 s)∧Below w.heap.size w w'):
    Calls Tryz.prog 47 #[.slice (some ⟨g,0,none⟩) T.length cap] w fun e w'=>e=.returned (.bool true)∧Below w.heap.size w w':=by
 obtain ⟨E,S,hwe⟩:=hw;have hs1:=(hwe.sorts s (by simp)).1;have hs0:(0:Int)<s:=by omega
 clear hwe;generalize T.length=n at *
 go_enter Tryz.func47,Tryz.ntmps47
 go_wp2_with fail
 refine h.mono ?_;rintro e w1 ⟨rfl,hb1⟩;have HB:=hid hb1;clear h hb1
 go_wp2
 go_ret
 exact ⟨rfl,HB.out⟩
theorem ld (V:List (ByteArray×Int)) (d:Nat) (T:List Nd) (s:Int) (g cap:Nat) (w:World) (hw:WT d T s) (hd:d≤257) (hl:T.length≤20000) (hV:Nm V T) (hsz:∀y∈T,y.num.size≤1000) (hN:NodesAt w g T) (hg:g<w.heap.size):
    Calls Tryz.prog 47 #[.slice (some ⟨g,0,none⟩) T.length cap] w fun e w'=>e=.returned (.bool true)∧Below w.heap.size w w':=
 gI hw (jS V d T s g cap w hw hd hl hV hsz hN hg)
def OnePost (x:Nd) (w:World) (e:Ending) (w':World):Prop:=∃g,e=.returned (.slice (some ⟨g,0,none⟩) 1 1)∧NodesAt w' g [x]∧g<w'.heap.size∧w.heap.size≤g∧Below w.heap.size w w'
theorem OnePost.of (x:Nd) (w:World):OnePost x w (.returned (.slice (some ⟨w.heap.size,0,none⟩) 1 1)) (w.alloc (.cells #[.int .i64 x.op,.int .i64 x.sort,.string x.name,.string x.num,.int .i64 x.kids] 34)):=by
 refine ⟨_,rfl,?_,by simp,ag _,aD w _⟩;refine dC fun j hj=>?_
 rw[World.cell?_alloc_at _ _ _ _ rfl];obtain ⟨op,sort,name,num,kids⟩:=x;show (#[Value.int .i64 op,.int .i64 sort,.string name,.string num,.int .i64 kids]:Array Value)[j]? =[Value.int .i64 op,.int .i64 sort,.string name,.string num,.int .i64 kids][j]?;rw[List.getElem?_toArray]
theorem dz (sort:Int) (num:ByteArray) (w:World):Calls Tryz.prog 31 #[.int .i64 sort,.string num] w (OnePost ⟨3,sort,⟨#[]⟩,num,0⟩ w):=by
 have HO:=hid (OnePost.of ⟨3,sort,⟨#[]⟩,num,0⟩ w)
 go_enter Tryz.func31,Tryz.ntmps31
 go_wp2
 go_ret
 exact HO.out
theorem kw (b:Bool) (w:World):Calls Tryz.prog 109 #[.bool b] w (OnePost ⟨if b then 1 else 2,0,⟨#[]⟩,⟨#[]⟩,0⟩ w):=by
 cases b
 · have HO:=hid (OnePost.of ⟨2,0,⟨#[]⟩,⟨#[]⟩,0⟩ w)
   go_enter Tryz.func109,Tryz.ntmps109
   go_wp2
   go_ret
   exact HO.out
 · have HO:=hid (OnePost.of ⟨1,0,⟨#[]⟩,⟨#[]⟩,0⟩ w)
   go_enter Tryz.func109,Tryz.ntmps109
   go_wp2
   go_ret
   exact HO.out
def qH (w:World) (x:Nd) (L:List (List Nd)) (e:Ending) (w':World):Prop:=
 ∃g c,e=.returned (.slice (some ⟨g,0,none⟩) (1+L.flatten.length) (1+L.flatten.length+c))∧NodesAt w' g ({ x with kids:=L.length }::L.flatten)∧g<w'.heap.size∧w.heap.size≤g∧Below w.heap.size w w'
theorem tg {w:World} {b g n cap z:Nat} {t:TypeId} {xs:List Value} (h:w.ownsRow b t z (.slice (some ⟨g,0,none⟩) n cap) n xs):n≤cap:=by
 obtain ⟨_,h | ⟨_,_,_,hv,_,_,hle,_⟩⟩:=h
 · cases h.1
 · injection hv with _ _ e3;omega
theorem jT (x:Nd) (ak:Option Addr) (gk ck:Nat) (L:List (List Nd)) (w:World) (hk:Kds w ak gk L) (hs:L.flatten.length≤1000000) (hmx:L.length≤1000000):
    Calls Tryz.prog 30 #[x.val,.slice ak L.length ck] w (qH w x L):=by
 obtain ⟨i0,hi,hz0,hz1,hz2⟩:=info_parts fR;obtain ⟨op,sort,name,num,kids⟩:=x;have HK:=hid hk
 have hmono:∀j,(L.take j).flatten.length≤L.flatten.length:=fun j=>by
  have:=congrArg List.length (congrArg List.flatten (List.take_append_drop j L));rw[List.flatten_append,aA] at this;omega
 have HMO:=hid hmono;obtain ⟨j,hm⟩:∃j,L.length=j:=⟨_,rfl⟩
 have HL:=hid hm;unfold Nd.val;rw[hm];rw[hm] at hmx;have HN2:Hid (NDB w.heap.size w ⟨op,sort,name,num,kids⟩ j (w.alloc (.cells #[.int .i64 op,.int .i64 sort,.string name,.string num,.int .i64 j] 34))):=hid ⟨heap_alloc_new w _,aD w _⟩;have HN3:=hid (HN2.out.far (aD (w.alloc (.cells #[.int .i64 op,.int .i64 sort,.string name,.string num,.int .i64 j] 34)) (.cells #[.int .i64 op,.int .i64 sort,.string name,.string num,.int .i64 j] 34)));have hsz:(w.alloc (.cells #[.int .i64 op,.int .i64 sort,.string name,.string num,.int .i64 j] 34)).heap.size=w.heap.size+1:=by simp
 have hown:=World.ownsRow_lit (base:=w.heap.size+1) (e:=34) (size:=5) (w.alloc (.cells #[.int .i64 op,.int .i64 sort,.string name,.string num,.int .i64 j] 34)) #[.int .i64 op,.int .i64 sort,.string name,.string num,.int .i64 j] 1 (by omega) (by decide) rfl;rw[hsz] at hown;have HR3:Hid (((w.alloc (.cells #[.int .i64 op,.int .i64 sort,.string name,.string num,.int .i64 j] 34)).alloc (.cells #[.int .i64 op,.int .i64 sort,.string name,.string num,.int .i64 j] 34)).ownsRow (w.heap.size+1) 34 5 (.slice (some ⟨w.heap.size+1,0,none⟩) 1 1) 1 (bm [⟨op,sort,name,num,(j:Int)⟩])):=hid hown;have hSS1:w.heap.size<w.heap.size+1:=by omega
 clear hk hm hmono hown hsz HN2
 go_enter Tryz.func30,Tryz.ntmps30
 go_wp2
 go_loopw [5,6] (fun v i wr=>∃(k B c:Nat),k≤j∧i=.int .i64 k∧v=.slice (some ⟨B,0,none⟩) (1+(L.take k).flatten.length) c∧w.heap.size<B∧NDB w.heap.size w ⟨op,sort,name,num,kids⟩ j wr∧wr.ownsRow (w.heap.size+1) 34 5 v (1+(L.take k).flatten.length) (bm (⟨op,sort,name,num,(j:Int)⟩::(L.take k).flatten))) (fun _ i _=>j-(intOf i).toNat)
 case atStart=>exact ⟨0,_,1,aE _,rfl,rfl,hSS1,HN3.out,HR3.out⟩
 case round=>
  clear HN3 HR3 hSS1;obtain ⟨k,B,c,hk,rfl,rfl,hSB,hnd,hrow⟩:=hrel;generalize hSS:w.heap.size=S at *;have HS:=hid hSS;have HN4:=hid hnd;have HR4:=hid hrow;clear hnd hrow hSS;have hk0:(0:Int)≤(k:Int):=by omega
  by_cases hlt2:k<j
  · have hlt3:(k:Int)<(j:Int):=by omega
    have hl:k<L.length:=by rw[HL.out];exact hlt2
    obtain rfl:=HK.out.1 (by omega);have hKK:=HK.out.far (show Below w.heap.size w wr by rw[HS.out];exact HN4.out.bel);obtain ⟨g,c1,cc,hN,hgl⟩:=hKK.2.2 k L[k] (aq hl);have hnx:1+(L.take (k+1)).flatten.length=(1+(L.take k).flatten.length)+L[k].length:=by rw[d9 hl,aA];omega
    have hnf:bm (⟨op,sort,name,num,(j:Int)⟩::(L.take (k+1)).flatten)=bm (⟨op,sort,name,num,(j:Int)⟩::(L.take k).flatten)++bm L[k]:=by rw[d9 hl,←List.cons_append,nO]
    have hle:=HMO.out (k+1);have h1:1+(L.take k).flatten.length+L[k].length≤1000001:=by omega
    have HNF:=hid hnf;have HNX:=hid hnx;have HNN:=hid (e7 hN);have HFL:Hid ((bm L[k]).length=L[k].length*5):=hid (du _);have HON:=hid (i5 L[k]);have hSw:=ay HN4.out.bx;have hs1:1≤1+(L.take k).flatten.length:=by omega
    clear hle hnx hnf hN;generalize bm (⟨op,sort,name,num,(j:Int)⟩::(L.take k).flatten)=fl0 at *;generalize bm L[k]=fl1 at *;generalize 1+(L.take k).flatten.length=s0 at *;generalize L[k].length=ln at *
    go_wp2_with (at_builtin;go_loud (refine wpList_append_own _ rfl _ _ 22 rfl (S+1) 34 i0 _ 5 56 Tryz.underlying22 hi hz0 hz1 hz2 rfl (by decide) (.slice (some ⟨B,0,none⟩) s0 c) s0 fl0 rfl HR4.out ⟨g,0,none⟩ ln c1 fl1 rfl HFL.out (fun q u hq=>by rw[oT];exact HNN.out q u hq) HON.out (by unfold maxLen;omega) (by omega) (by omega) ?_))
    intro v' w4 hrow hg hnil0
    obtain ⟨B',c',hv',hB'⟩:∃B' c',v'=.slice (some ⟨B',0,none⟩) (s0+ln) c'∧S<B':=by
     obtain ⟨_,h1 | ⟨g,cap,cur,hv,_⟩⟩:=id hrow
     · exact absurd h1.2 (by omega)
     · exact ⟨g,cap,hv,by have:=(hrow.lt g (by rw[hv];rfl)).1;omega⟩
    subst hv';have HN5:=hid (HN4.out.grow hg (fun k e=>by have e':B=k:=aG e;omega));have HR5:=hid hrow;clear hrow hg HR4 HN4 cc
    go_wp2_with fail
    go_roundw
    case rel=>exact ⟨k+1,B',c',by omega,by go_num,by rw[HNX.out],hB',HN5.out,by rw[HNX.out,HNF.out];exact HR5.out⟩
    case measure=>simp[intOf];omega
  · obtain rfl:k=j:=by omega
    have hall:(L.take k).flatten=L.flatten:=by rw[aJ (by rw[HL.out];omega)]
    rw[hall] at HR4 ⊢
    have HFIN:Hid (qH w ⟨op,sort,name,num,kids⟩ L (.returned (.slice (some ⟨B,0,none⟩) (1+L.flatten.length) c)) wr):=hid (by
     have hrow:=HR4.out;obtain ⟨c',hc'⟩:∃c',c=1+L.flatten.length+c':=⟨c-(1+L.flatten.length),by have:=tg hrow;omega⟩
     refine ⟨B,c',by rw[←hc'],dC (fun q hq=>?_),(hrow.lt B rfl).2,by rw[HS.out];omega,by rw[HS.out];exact HN4.out.bel⟩;have hq':q<(1+L.flatten.length)*5:=by simp only[au] at hq;omega
     rw[hrow.cellAt q hq'];show (bm (⟨op,sort,name,num,(k:Int)⟩::L.flatten))[q]? =(bm (⟨op,sort,name,num,(L.length:Int)⟩::L.flatten))[q]?
     rw[HL.out])
    clear HR4 HN4
    go_wp2
    go_ret
    exact HFIN.out
end
end Go.Proofs.YtapdbeaoakcjeaaGreatDoor.Se

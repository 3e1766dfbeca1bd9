/- (*reader).node. -/
import Derived.Test.YtapdbeaoakcjeaaGreatDoorEUY
set_option maxRecDepth 100000
set_option maxHeartbeats 40000000
open Go.Lib (hid)
namespace Go.Proofs.YtapdbeaoakcjeaaGreatDoor.Se
open Go.RowKit Nmx
structure NB0 (S:Nat) (w:World) (x:Nd) (W:World):Prop where
 bx:W.heap[S]? =some (.cells #[.int .i64 x.op,.int .i64 x.sort,.string x.name,.string x.num,.int .i64 x.kids] 34 (0,0))
 rb:W.heap[S+1]? =some (.cells #[.slice none 0 0,.int .i64 0,.int .i64 0] 134 (0,0))
 bel:Below S w W
theorem NB0.far {S:Nat} {w:World} {x:Nd} {W W':World} (h:NB0 S w x W) (hb:Below W.heap.size W W'):NB0 S w x W':=
 ⟨(hb.block _ (ay h.bx)).trans h.bx,(hb.block _ (ay h.rb)).trans h.rb,h.bel.trans (hb.mono (aI (ay h.bx)))⟩
theorem wC (L:List (List Nd×Int×Int)):0≤dpL L:=by
 unfold dpL
 suffices h:∀(l:List (List Nd×Int×Int)) (d:Int),0≤d→0≤l.foldl (fun d t=>max d t.2.1) d from h L 0 (Int.le_refl _)
 intro l
 induction l with
 | nil=>intro d hd;exact hd
 | cons t l ih=>intro d hd;exact ih _ (show 0≤max d t.2.1 by omega)
section
theorem yb (x:Nd) (R V F:Nat) (ai ae ab ak:Option Addr) (ni ci ne ce nb cb gk ck:Nat) (p er i:Int) (L:List (List Nd×Int×Int)) (w:World)
    (hR:w.heap[R]? =some (rdC ai ni ci ae ne ce V F ab nb cb false p er)) (hk:KSz w ak gk L) (hop:1≤x.op∧x.op≤20) (har:(arF x.op).1≤L.length) (hrs:(rsF x.op x.sort (L.map (·.2.2))).2=true)
    (hs:1+szL L≤20000) (hd:dpL L≤256) (hL:L.length≤1000000):
    Calls Tryz.prog 174 #[.pointer (some ⟨R,0,none⟩),.int .i64 i,x.val,.slice ak L.length ck] w (cC ({ x with kids:=L.length }::(L.map (·.1)).flatten) (dpL L+1) (rsF x.op x.sort (L.map (·.2.2))).1 w):=by
 obtain ⟨i0,hi0,hz0,hz1,hz2⟩:=info_parts infoInt;obtain ⟨i1,hi1,hy0,hy1,hy2⟩:=info_parts wy;have HRS:=hid fun (W:World) (b:Nat) (hr:RowI W (some ⟨b,0,none⟩) b (L.map (·.2.2)))=>dj x (some ⟨b,0,none⟩) b (L.map (·.2.2)).length (L.map (·.2.2)) W hr hop (by simpa using har)
 have HTN:=hid fun (W:World) (b:Nat) (hr:Kds W (some ⟨b,0,none⟩) b (L.map (·.1)))=>gD x (some ⟨b,0,none⟩) b (L.map (·.1)).length (L.map (·.1)) W hr (by have:=hs;unfold szL at this;omega) (by simpa using hL)
 have HP:Hid (∀e w',cC ({ x with kids:=L.length }::(L.map (·.1)).flatten) (dpL L+1) (rsF x.op x.sort (L.map (·.2.2))).1 w e w'→cC ({ x with kids:=L.length }::(L.map (·.1)).flatten) (dpL L+1) (rsF x.op x.sort (L.map (·.2.2))).1 w e w'):=hid fun _ _ h=>h
 rw[List.length_map] at HTN HRS;obtain ⟨op,sort,name,num,kids⟩:=x;simp only at hop har hrs HRS HTN HP ⊢;rw[hrs] at HRS;generalize (rsF op sort (L.map (·.2.2))).1=rs at *;unfold rdC at hR;have hlt:=ay hR;have h1:=aD w (.cells #[.int .i64 op,.int .i64 sort,.string name,.string num,.int .i64 kids] 34);have b0:=heap_alloc_new w (.cells #[.int .i64 op,.int .i64 sort,.string name,.string num,.int .i64 kids] 34);have e1:(w.alloc (.cells #[.int .i64 op,.int .i64 sort,.string name,.string num,.int .i64 kids] 34)).heap.size=w.heap.size+1:=by simp
 have h2:=aD (w.alloc (.cells #[.int .i64 op,.int .i64 sort,.string name,.string num,.int .i64 kids] 34)) (.cells #[.slice none 0 0,.int .i64 0,.int .i64 0] 134);have b1:=heap_alloc_new (w.alloc (.cells #[.int .i64 op,.int .i64 sort,.string name,.string num,.int .i64 kids] 34)) (.cells #[.slice none 0 0,.int .i64 0,.int .i64 0] 134);rw[e1] at b1;have HB0:Hid (NB0 w.heap.size w ⟨op,sort,name,num,kids⟩ ((w.alloc (.cells #[.int .i64 op,.int .i64 sort,.string name,.string num,.int .i64 kids] 34)).alloc (.cells #[.slice none 0 0,.int .i64 0,.int .i64 0] 134))):=hid ⟨(h2.block _ (ay b0)).trans b0,b1,h1.trans (h2.mono h1.size)⟩;have HR:=hid hR;have HK:=hid hk;obtain ⟨n,hn⟩:∃n,L.length=n:=⟨_,rfl⟩
 have HLN:=hid hn;have HRF:Hid (R<w.heap.size):=hid hlt;unfold Nd.val at HRS HTN ⊢;simp only at HRS HTN ⊢;rw[hn] at hL HRS HTN ⊢;clear hR hk hn h1 b0 e1 h2 b1 hlt hrs
 go_enter Tryz.func174,Tryz.ntmps174
 go_upto_region 1 with fail
 generalize hW1:(w.alloc (.cells #[.int .i64 op,.int .i64 sort,.string name,.string num,.int .i64 kids] 34)).alloc (.cells #[.slice none 0 0,.int .i64 0,.int .i64 0] 134)=w1 at *;generalize hSS:w.heap.size=S at *;have HS:=hid hSS;clear hSS hW1;refine aV [[],[0],[0,1],[],[3],[3,4],[0,1,2],[0,1,2,3,4,5,6]] (fun W=>NB0 S w ⟨op,sort,name,num,kids⟩ W) (fun _=>True) ?_
 iterate 2
  apply aR
  · intro x;go_simp;done
  · intro x W R hW hF hR;clear hF hW;unfold aN
    go_simp
    simp only[aF];exact hR _ (ah _ _)
  simp only[Act.put,aa,aj,am]
 refine cY (fun v W=>∃B,v=.slice (some ⟨B,0,none⟩) n n∧W.ownsRow (S+2) 3 1 v n (madeCells (Value.cells (.int .i64 0)) (n*1)).toList) (fun _ _ _ h hb=>let ⟨B,h1,h3⟩:=h;⟨B,h1,bl h3 hb (fun g hg=>(h3.lt g hg).2)⟩) ?_ ?_ ?_
 · intro x;go_simp;done
 · intro x W R hW hF hR;have hlw:=ay hW.rb;clear hF;refine kM (.tmp 21) (.tmp 21) 23 rfl (S+2) 3 i0 _ 1 (by kernel_rfl) hi0 hz0 hz1 .i64 .i64 n rfl rfl (by rw[hz2];omega) (by unfold maxLen;omega) (by omega) ?_;intro w' hown hg;exact hR _ _ ⟨_,rfl,hown⟩ ((ah _ _).grown hg (ag _) (fun k h=>by cases h))
 simp only[Act.put,aa,aj,am,au,aH,Nat.zero_add,Nat.reduceAdd]
 iterate 2
  apply aR
  · intro x;go_simp;done
  · intro x W R hW hF hR;clear hF hW;unfold aN
    go_simp
    simp only[aF];exact hR _ (ah _ _)
  simp only[Act.put,aa,aj,am]
 refine cY (fun v W=>∃B,v=.slice (some ⟨B,0,none⟩) n n∧W.ownsRow (S+2) 22 1 v n (madeCells (Value.cells (.slice none 0 0)) (n*1)).toList) (fun _ _ _ h hb=>let ⟨B,h1,h3⟩:=h;⟨B,h1,bl h3 hb (fun g hg=>(h3.lt g hg).2)⟩) ?_ ?_ ?_
 · intro x;go_simp;done
 · intro x W R hW hF hR;have hlw:=ay hW.rb;clear hF;refine kM (.tmp 24) (.tmp 24) 29 rfl (S+2) 22 i1 _ 1 (by kernel_rfl) hi1 hy0 hy1 .i64 .i64 n rfl rfl (by rw[hy2];omega) (by unfold maxLen;omega) (by omega) ?_;intro w' hown hg;exact hR _ _ ⟨_,rfl,hown⟩ ((ah _ _).grown hg (ag _) (fun k h=>by cases h))
 simp only[Act.put,aa,aj,am,au,aH,Nat.zero_add,Nat.reduceAdd];refine ez (fun x=>x 6=x 2) (fun x x' hx h=>by rw[←hx 6 (.inl rfl),←hx 2 (.inr (List.contains_iff_mem.1 rfl))];exact h) ?_ ?_ ?_
 · intro x;go_simp;done
 · intro x W R hW hF hR;clear hF hW;unfold aN
   go_simp
   simp only[aF];refine hR _ _ ?_ (ah _ _);show bM x 6 _ 6=bM x 6 _ 2;rw[bp,bC (i:=6) (j:=2) _ _ (by decide)]
 simp only[Act.put,aa,aj,am,au,aH,Nat.zero_add,Nat.reduceAdd];refine ez (fun x=>x 7=x 5) (fun x x' hx h=>by rw[←hx 7 (.inl rfl),←hx 5 (.inr (List.contains_iff_mem.1 rfl))];exact h) ?_ ?_ ?_
 · intro x;go_simp;done
 · intro x W R hW hF hR;clear hF hW;unfold aN
   go_simp
   simp only[aF];refine hR _ _ ?_ (ah _ _);show bM x 7 _ 7=bM x 7 _ 5;rw[bp,bC (i:=7) (j:=5) _ _ (by decide)]
 simp only[Act.put,aa,aj,am,au,aH,Nat.zero_add,Nat.reduceAdd];refine cz (by kernel_rfl) (by kernel_rfl) (by kernel_rfl) (fun _ _ h hb=>h.far hb) (fun _ _ _ _=>trivial) (fun _ _=>trivial) (HB0.out.far (ah _ _).drew) ?_;intro x W hE hW hF hD;clear hD;have hx7:=hF.1.1;have hx6:=hF.2.1.1;have hm2:=hF.2.2.1.2 rfl;have hm1:=hF.2.2.2.2.2.1.2 rfl;simp only[AK.free,AK.fact] at hx7 hx6 hm2 hm1;obtain ⟨B2,hx5,hw2⟩:=hm2;obtain ⟨B1,hx2,hw1⟩:=hm1;rw[hx5] at hx7 hw2;rw[hx2] at hx6 hw1;replace hW:=hW rfl
 have HNW:Hid (NW S w ⟨op,sort,name,num,kids⟩ B1 B2 n L 0 0 W):=hid ⟨hW.bx,hW.rb,⟨List.replicate n 0,by simp,fun j hj=>by omega,by
  have e:(madeCells (Value.cells (.int .i64 0)) (n*1)).toList=aX (List.replicate n 0):=by rw[d6 n];simp[ew,aX]
  rwa [e] at hw1⟩,⟨_,by rw[hw2.1,Nat.mul_one],fun j t hj=>by omega,hw2⟩,hW.bel⟩
 clear hF hW hw1 hw2 hx5 hx2 HB0;simp only[hx6,hx7];have HX:=hid (show True from trivial)
 go_wp2_with fail
 go_loopw [12,13,28] (fun v12 v13 v28 wr=>∃k:Nat,k≤n∧v12=.int .i64 (1+szL (L.take k):Nat)∧v13=.int .i64 (dpL (L.take k))∧v28=.int .i64 k∧NW S w ⟨op,sort,name,num,kids⟩ B1 B2 n L k k wr) (fun _ _ i _=>n-(intOf i).toNat)
 case atStart=>exact ⟨0,aE _,by simp[szL],by simp[dpL],rfl,HNW.out⟩
 case round=>
  clear HNW hx6 hx7;obtain ⟨k,hk,rfl,rfl,rfl,hnw⟩:=hrel;have HNW:=hid hnw;clear hnw;have hk0:(0:Int)≤(k:Int):=by omega
  by_cases hkn:k<n
  · have hkn':(k:Int)<(n:Int):=by omega
    have hl:k<L.length:=by rw[HLN.out];exact hkn
    obtain rfl:=HK.out.1 (by omega);have hKK:=HK.out.far (show Below w.heap.size w wr by rw[HS.out];exact HNW.out.bel);obtain ⟨g,c,c0,c1,c2,hN,hgl⟩:=HK.out.2.2 k L[k] (aq hl);have hgS:g<S:=by rw[←HS.out];exact hgl
    have hgk:=HK.out.2.1;have q0:wr.cell? ⟨gk,k*3,none⟩=_:=((show Below w.heap.size w wr by rw[HS.out];exact HNW.out.bel).cell (p:=⟨gk,k*3,none⟩) hgk).trans c0;have q1:wr.cell? ⟨gk,k*3+1,none⟩=_:=((show Below w.heap.size w wr by rw[HS.out];exact HNW.out.bel).cell (p:=⟨gk,k*3+1,none⟩) hgk).trans c1;have q2:wr.cell? ⟨gk,k*3+2,none⟩=_:=((show Below w.heap.size w wr by rw[HS.out];exact HNW.out.bel).cell (p:=⟨gk,k*3+2,none⟩) hgk).trans c2;have hsz:(1+szL (L.take (k+1)):Nat)=(1+szL (L.take k))+L[k].1.length:=by rw[wA hl];omega
    have hdp:=wB hl;have hle:=zd L (k+1);have hb1:1+szL (L.take k)+L[k].1.length≤20000:=by omega
    have HSZ:=hid hsz;have HDP:=hid hdp;have HNN:=hid hN;have HLK:Hid (L[k]? =some L[k]):=hid (aq hl);have HSO:Hid ((L.map (·.2.2))[k]? =some L[k].2.2):=hid (by rw[List.getElem?_map,HLK.out];rfl);have HLE:Hid (L[k].1.length=L[k].1.length):=hid rfl;clear hsz hdp hN hle hKK c0 c1 c2;obtain ⟨tk,htk⟩:∃tk,L[k]=tk:=⟨_,rfl⟩
    rw[htk] at HSZ HDP HNN HLK HSO HLE q0 q1 q2 hb1;clear htk;obtain ⟨ts,dp,so⟩:=tk;simp only at HSZ HDP HNN HLK HSO HLE q0 q1 q2 hb1;obtain ⟨ln,hln⟩:∃ln,ts.length=ln:=⟨_,rfl⟩
    rw[hln] at q0 hb1 HSZ;have HLE:Hid (ts.length=ln):=hid hln;clear hln;have hal:=aD wr (.cells #[.slice (some ⟨g,0,none⟩) ln c,.int .i64 dp,.int .i64 so] 134);have hD:=heap_alloc_new wr (.cells #[.slice (some ⟨g,0,none⟩) ln c,.int .i64 dp,.int .i64 so] 134);have HNW3:=hid (HNW.out.far hal);have hne:=HNW.out.ne;have hB1l:B1<wr.heap.size:=(HNW.out.r1.choose_spec.2.2.lt B1 rfl).2;have hB2l:B2<wr.heap.size:=(HNW.out.r2.choose_spec.2.2.lt B2 rfl).2;have hDB12:Hid (wr.heap.size≠B1∧wr.heap.size≠B2):=hid ⟨by omega,by omega⟩;have HD:=hid hD;generalize szL (L.take k)=s0 at *;generalize dpL (L.take k)=d0 at *;clear hD hal hne HNW
    go_upto_region 6 with fail
    generalize wr.alloc (.cells #[.slice (some ⟨g,0,none⟩) ln c,.int .i64 dp,.int .i64 so] 134)=w3 at *;generalize wr.heap.size=D at *;clear q0 q1 q2 hB1l hB2l;refine aV [[],[],[],[],[],[4],[],[6],[0,1,4,5],[0,1,4,5,8],[0,1,2,3,4,5,6,7,8,9],[0,1,2,3,4,5,6,7,8,9,10]] (fun W=>NW S w ⟨op,sort,name,num,kids⟩ B1 B2 n L k k W∧W.heap[D]? =some (.cells #[.slice (some ⟨g,0,none⟩) ln c,.int .i64 dp,.int .i64 so] 134 (0,0))∧D<W.heap.size) (fun W=>W.heap[D]? =some (.cells #[.slice (some ⟨g,0,none⟩) ln c,.int .i64 dp,.int .i64 so] 134 (0,0))∧D<W.heap.size) ?_
    iterate 4
     apply gN
     · intro x;go_simp;done
     · intro x W R hW hF hR;clear hF hW;unfold aN
       go_simp
       simp only[aF];exact hR _ (ah _ _)
     simp only[Act.put,aa,aj,am]
    apply aR
    · intro x;go_simp;done
    · intro x W R hW hF hR;clear hF hW;unfold aN
      go_simp
      simp only[aF];exact hR _ (ah _ _)
    simp only[Act.put,aa,aj,am];apply gN
    · intro x;go_simp;done
    · intro x W R hW hF hR;have d0:=ac hW.1 0;have d1:=ac hW.1 1;have d2:=ac hW.1 2;clear hF;unfold aN
      go_simp
      simp only[aF];exact hR _ (ah _ _)
    simp only[Act.put,aa,aj,am];apply gN
    · intro x;go_simp;done
    · intro x W R hW hF hR;have d0:=ac hW.1 0;have d1:=ac hW.1 1;have d2:=ac hW.1 2;clear hF;unfold aN
      go_simp
      simp only[aF];exact hR _ (ah _ _)
    simp only[Act.put,aa,aj,am];apply gN
    · intro x;go_simp;done
    · intro x W R hW hF hR;have d0:=ac hW.1 0;have d1:=ac hW.1 1;have d2:=ac hW.1 2;clear hF;unfold aN
      go_simp
      simp only[aF];exact hR _ (ah _ _)
    simp only[Act.put,aa,aj,am];apply aR
    · intro x;go_simp;done
    · intro x W R hW hF hR;clear hF;unfold aN
      go_simp
      simp only[aF];exact hR _ (ah _ _)
    simp only[Act.put,aa,aj,am];refine fG (fun _ W=>NW S w ⟨op,sort,name,num,kids⟩ B1 B2 n L (k+1) k W) (fun _ _ _ h hb=>h.far hb) (fun _ _ _ _ h=>h) ?_ ?_ ?_
    · intro x;go_simp;done
    · intro x W R hW hF hD hR;obtain ⟨⟨u,hu⟩,fz⟩:=hW.1.cell1 hkn;obtain ⟨hDw,hDl⟩:=hW.2;have hDB:D≠B1:=hDB12.out.1;clear hF hD;unfold aN
      go_simp
      simp only[aF];exact hR _ _ (hW.1.set1 hkn HSO.out) ⟨(aB _ _ _ _ (by show D≠B1;exact hDB)).trans hDw,by simpa using hDl⟩ (by simp[World.setCell])
    simp only[Act.put];apply lH
    · intro x;go_simp;done
    · intro x W R hW hF hR;clear hF hW;unfold aN
      go_simp
      simp only[aF];exact hR _ (ah _ _)
    simp only[Act.put,aa,aj,am];refine qW (fun _ W=>NW S w ⟨op,sort,name,num,kids⟩ B1 B2 n L (k+1) (k+1) W) (fun _ _ _ h hb=>h.far hb) (fun _ _ _ _ h=>h) ?_ ?_ ?_
    · intro x;go_simp;done
    · intro x W R hW hF hD hR;have hNW:=hF.2.1.2 rfl rfl rfl;simp only[AK.fact] at hNW;obtain ⟨⟨u,hu⟩,fz⟩:=hNW.cell2 hkn;obtain ⟨hDw,hDl⟩:=hW;have hDB:D≠B2:=hDB12.out.2;clear hF hD;unfold aN
      go_simp
      simp only[aF];exact hR _ _ (by rw[←HLE.out];exact hNW.set2 hkn HLK.out HNN.out hgS) ⟨(aB _ _ _ _ (by show D≠B2;exact hDB)).trans hDw,by simpa using hDl⟩ (by simp[World.setCell])
    simp only[Act.put];refine cz (by kernel_rfl) (by kernel_rfl) (by kernel_rfl) (fun _ _ h hb=>⟨h.1.far hb,(hb.block _ h.2.2).trans h.2.1,ap h.2.2 hb.size⟩) (fun _ _ h hb=>⟨(hb.block _ h.2).trans h.1,ap h.2 hb.size⟩) (fun _ h=>h.2) ⟨HNW3.out.far (ah _ _).drew,HD.out,ay HD.out⟩ ?_;intro x W hE hW hF hD;clear hD;have HNW4:=hid (hF.1.2 rfl);have d0':=ac hE.1 0;have d1':=ac hE.1 1;have d2':=ac hE.1 2;clear hF hW hE HNW3
    go_wp2
    go_roundw
    case rel=>exact ⟨k+1,by omega,by rw[HSZ.out];go_num,by rw[HDP.out],by go_num,HNW4.out⟩
    case measure=>simp[intOf];omega
  · obtain rfl:k=n:=by omega
    have hall:L.take k=L:=aJ (by rw[HLN.out];exact ag _);rw[hall];have hnw:=HNW.out;rw[←HLN.out] at hnw;have hRI:=hnw.rowI (by rw[HLN.out];exact hL);have hrs:=HRS.out _ _ hRI;have b0:=ac HNW.out.bx 0;have b1:=ac HNW.out.bx 1;have b2:=ac HNW.out.bx 2;have b3:=ac HNW.out.bx 3;have b4:=ac HNW.out.bx 4;have hdn:=wC L;obtain ⟨s0,hs0⟩:∃s0,szL L=s0:=⟨_,rfl⟩
    obtain ⟨d0,hd0⟩:∃d0,dpL L=d0:=⟨_,rfl⟩
    rw[hs0] at hs;rw[hd0] at hd hdn;rw[hs0,hd0];have HD0:=hid hd0;clear hall hnw hRI hs0 hd0
    go_wp2_with fail
    refine hrs.mono ?_;rintro e w5 ⟨rfl,hb5⟩;have HNW5:=hid (HNW.out.far hb5);clear hrs hb5 b0 b1 b2 b3 b4 HNW;have hnw:=HNW5.out;rw[←HLN.out] at hnw;have hKD:=HTN.out _ _ hnw.kds;have b0:=ac HNW5.out.bx 0;have b1:=ac HNW5.out.bx 1;have b2:=ac HNW5.out.bx 2;have b3:=ac HNW5.out.bx 3;have b4:=ac HNW5.out.bx 4;have hrc:=(HNW5.out.bel.block R HRF.out).trans HR.out;have r5:=ac hrc 5;have hRl:R<w5.heap.size:=ay hrc;have g0:¬(20000:Int)<((1+s0:Nat):Int):=by omega
    have g1:¬(256:Int)<d0:=by omega
    clear hnw hrc
    go_wp2_with fail
    unfold fS at hKD;refine hKD.mono ?_;rintro e w6 ⟨g,c,rfl,hN,hsf,hgm,hb6⟩;have hgl:=hsf.lt;clear hsf;have HNW6:=hid (HNW5.out.far hb6);rw[List.length_map,HLN.out] at hN;have HN:=hid hN;have hgS:S+1<g:=ap (ay HNW5.out.rb) hgm;clear hKD hN hb6 b0 b1 b2 b3 b4 r5 hRl HNW5 hgm;have hw3:=HNW6.out.rb;have z0:=aM hw3 0;have z1:=aM hw3 1;have z2:=aM hw3 2;have q0:=ac hw3 0;have q1:=ac hw3 1;have q2:=ac hw3 2;have HW3:=hid hw3;have HB6:=hid HNW6.out.bel;obtain ⟨m,hm⟩:∃m,1+(L.map (·.1)).flatten.length=m:=⟨_,rfl⟩
    rw[hm];have HM:=hid hm;clear hw3 hm HNW6
    go_wp2
    (try simp only[Exit.inBlock,Exit.then])
    have hw4:=heap_set (heap_set (heap_set HW3.out 0 (.slice (some ⟨g,0,none⟩) m c)) 1 (.int .i64 (d0+1))) 2 (.int .i64 rs);have hbb:Below S w (((w6.setCell ⟨S+1,0,none⟩ (.slice (some ⟨g,0,none⟩) m c)).setCell ⟨S+1,1,none⟩ (.int .i64 (d0+1))).setCell ⟨S+1,2,none⟩ (.int .i64 rs)):=((HB6.out.setCell (show S≤S+1 by omega) _).setCell (show S≤S+1 by omega) _).setCell (show S≤S+1 by omega) _;have s0:=ac hw4 0;have s1:=ac hw4 1;have s2:=ac hw4 2;have hgS':g≠S+1:=by omega
    have hblk:(((w6.setCell ⟨S+1,0,none⟩ (.slice (some ⟨g,0,none⟩) m c)).setCell ⟨S+1,1,none⟩ (.int .i64 (d0+1))).setCell ⟨S+1,2,none⟩ (.int .i64 rs)).heap[g]? =w6.heap[g]? :=
     (aB _ _ _ _ hgS').trans ((aB _ _ _ _ hgS').trans (aB _ _ _ _ hgS'))
    have hsz:(((w6.setCell ⟨S+1,0,none⟩ (.slice (some ⟨g,0,none⟩) m c)).setCell ⟨S+1,1,none⟩ (.int .i64 (d0+1))).setCell ⟨S+1,2,none⟩ (.int .i64 rs)).heap.size=w6.heap.size:=by simp
    generalize ((w6.setCell ⟨S+1,0,none⟩ (.slice (some ⟨g,0,none⟩) m c)).setCell ⟨S+1,1,none⟩ (.int .i64 (d0+1))).setCell ⟨S+1,2,none⟩ (.int .i64 rs)=w7 at *;refine bodyPost_ret (v:=.tuple #[.agg #[.slice (some ⟨g,0,none⟩) m c,.int .i64 (d0+1),.int .i64 rs],.bool true]) ?_ rfl ⟨_,rfl,⟨g,c,?_,fun i x hx j hj=>(World.cell?_of_block hblk).trans ?_,by rw[hsz];exact hgl,by simp⟩,by rw[HS.out];exact hbb⟩
    · rw[results_cell_tmp rfl]
      go_simp
    · rw[HD0.out,au,←HM.out,Nat.add_comm]
    · exact HN.out i x hx j hj
end
end Go.Proofs.YtapdbeaoakcjeaaGreatDoor.Se

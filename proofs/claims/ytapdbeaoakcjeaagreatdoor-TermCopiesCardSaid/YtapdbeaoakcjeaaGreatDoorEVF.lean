/- Clone of a term. -/
import Derived.Test.YtapdbeaoakcjeaaGreatDoorEVD
set_option maxRecDepth 100000
set_option maxHeartbeats 40000000
open Go.Lib (hid)
namespace Go.Proofs.YtapdbeaoakcjeaaGreatDoor.Se
open Go.RowKit Nmx
section
theorem k9 (g n c:Nat) (ts:List Nd) (w:World) (hn:ts.length=n) (h0:0<n) (hm:n≤1000000) (hN:NodesAt w g ts) (hg:g<w.heap.size):
    Calls Tryz.prog 38 #[.slice (some ⟨g,0,none⟩) n c] w fun e w'=>∃g' c',e=.returned (.slice (some ⟨g',0,none⟩) n c')∧NodesAt w' g' ts∧g'<w'.heap.size∧w.heap.size≤g'∧Below w.heap.size w w':=by
 obtain ⟨i0,hi,hz0,hz1,hz2⟩:=info_parts fR;have HN:=hid (e7 hN);have HL:=hid hn;have HFL:Hid ((bm ts).length=n*5):=hid (by rw[du,hn]);have HON:=hid (i5 ts);clear hN hn;have hq:∀w':World,(binOp .eql 22 (.slice (some ⟨g,0,none⟩) n c) (.slice none 0 0)).run Tryz.prog w'=.ok (.bool false) w':=fun w'=>Lib.run_eql_slice_nil w' _ _ (some ⟨g,0,none⟩) n c 0 0 Tryz.underlying22
 go_enter Tryz.func38,Tryz.ntmps38
 have hown:(w.alloc (.cells #[] 34)).ownsRow w.heap.size 34 5 (.slice (some ⟨w.heap.size,0,none⟩) 0 0) 0 []:=⟨rfl,.inr ⟨w.heap.size,0,#[],rfl,ag _,heap_alloc_new w _,ag _,by unfold maxLen;omega,rfl,rfl⟩⟩
 have hgw:∀q,(w.alloc (.cells #[] 34)).cell? ⟨g,q,none⟩=w.cell? ⟨g,q,none⟩:=fun q=>(aD w _).cell (p:=⟨g,q,none⟩) hg
 have HOW:=hid hown;have HGW:=hid hgw;clear hown hgw
 go_wp2_with (at_builtin;go_loud (refine wpList_append_own _ rfl _ _ 22 rfl w.heap.size 34 i0 _ 5 56 Tryz.underlying22 hi hz0 hz1 hz2 rfl (by decide) (.slice (some ⟨w.heap.size,0,none⟩) 0 0) 0 [] rfl HOW.out ⟨g,0,none⟩ n c (bm ts) rfl HFL.out (fun q u hq=>by rw[oT];exact (HGW.out q).trans (HN.out q u hq)) HON.out (by unfold maxLen;omega) (by omega) (by simp) ?_))
 intro v' w4 hrow hgr hnil0;have hb:Below w.heap.size w w4:=(aD w _).grown hgr (by simp) (fun k e=>by have e':w.heap.size=k:=aG e;omega)
 obtain ⟨B',c',hv'⟩:∃B' c',v'=.slice (some ⟨B',0,none⟩) n c':=by
  obtain ⟨_,h1 | ⟨g,cap,cur,hv,_⟩⟩:=id hrow
  · exact absurd h1.2 (by omega)
  · exact ⟨g,cap,hv⟩
 subst hv';have HRW:=hid hrow;have HB:=hid hb;clear hrow hgr hnil0 hb
 go_wp2
 go_ret
 exact ⟨B',c',rfl,dC (fun q hq=>HRW.out.cellAt q (by rw[HL.out] at hq;exact hq)),(HRW.out.lt B' rfl).2,(HRW.out.lt B' rfl).1,HB.out⟩
theorem uI (g n c:Nat) (ts:List Nd) (w:World) (hn:ts.length=n) (h0:0<n) (hm:n≤1000000) (hN:NodesAt w g ts) (hg:g<w.heap.size):
    Calls Tryz.prog 103 #[.slice (some ⟨g,0,none⟩) n c] w fun e w'=>∃g' c',e=.returned (.slice (some ⟨g',0,none⟩) n c')∧NodesAt w' g' ts∧g'<w'.heap.size∧w.heap.size≤g'∧Below w.heap.size w w':=by
 have hc:=k9 g n c ts w hn h0 hm hN hg;clear hN
 go_enter Tryz.func103,Tryz.ntmps103
 go_wp2_with fail
 refine hc.mono ?_;rintro e w' ⟨g',c',rfl,h1,h2,h3,h4⟩;have H1:=hid h1;have H4:=hid h4;clear h1 h4 hc
 go_wp2
 go_ret
 exact ⟨g',c',rfl,H1.out,h2,h3,H4.out⟩
end
end Go.Proofs.YtapdbeaoakcjeaaGreatDoor.Se
/- Read at item 0, with variables alone. -/
namespace Go.Proofs.YtapdbeaoakcjeaaGreatDoor.Se
open Go.RowKit Nmx
structure RDR (R V F gi N ci ge ce:Nat) (its:List It) (E:List Nat) (vs:List (ByteArray×Int)) (w:World):Prop where
 rd:w.heap[R]? =some (rdC (some ⟨gi,0,none⟩) N ci (some ⟨ge,0,none⟩) N ce V F none 0 0 false 0 0)
 it:ItemsAt w gi its
 gl:gi<w.heap.size
 en:∀t (h:t<E.length),w.cell? ⟨ge,t,none⟩=some (.int .i64 E[t])
 el:ge<w.heap.size
 mv:MapS w V (asI vs)
 mf:MapS w F []
 big:0<w.heap.size
theorem RDR.far {R V F gi N ci ge ce:Nat} {its:List It} {E:List Nat} {vs:List (ByteArray×Int)} {w w':World} (h:RDR R V F gi N ci ge ce its E vs w) (hb:Below w.heap.size w w'):RDR R V F gi N ci ge ce its E vs w':=
 ⟨(hb.block _ (ay h.rd)).trans h.rd,h.it.below hb h.gl,ap h.gl hb.size,fun t ht=>(hb.cell (p:=⟨ge,t,none⟩) h.el).trans (h.en t ht),ap h.el hb.size,h.mv.far hb,h.mf.far hb,ap h.big hb.size⟩
section
theorem yd (ts:List Nd) (d s:Int) (gi N ci gv cv:Nat) (av:Option Addr) (its:List It) (E:List Nat) (l:List (ByteArray×Int)) (w:World) (hEn:Env w)
    (hN:N≤65536) (hN0:0<N) (hits:its.length=N) (hit:ItemsAt w gi its) (hgi:gi<w.heap.size) (hvd:Vd its E) (htx:∀x∈its,x.text.size<4294967281)
    (hav:l.length≠0→av=some ⟨gv,0,none⟩) (hgv:gv<w.heap.size) (hl:l.length≤100000) (hc:VarsAt w gv l) (hok:∀q∈l,bH q.1.toList=true∧1≤q.2∧q.2≤4)
    (hread:∀(R V F ge ce:Nat) (W:World),Below w.heap.size w W→RDR R V F gi N ci ge ce its E (fU [] l) W→Calls Tryz.prog 102 #[.pointer (some ⟨R,0,none⟩),.int .i64 0] W (cC ts d s W)) (hts:ts.length≤1000000):
    Calls Tryz.prog 56 #[.slice (some ⟨gi,0,none⟩) N ci,.int .i64 0,.slice av l.length cv,.slice none 0 0] w (fun e w'=>∃g c,e=.returned (.tuple #[.slice (some ⟨g,0,none⟩) ts.length c,.int .i64 0,.int .i64 0])∧NodesAt w' g ts∧g<w'.heap.size∧Below w.heap.size w w'):=by
 have hm1:=@cF Tryz.prog 112;have hm2:=@cF Tryz.prog 127;obtain ⟨ml,hml⟩:=hEn.len;have hbig:=hEn.big;have hvt:gB its=true:=by unfold gB;rw[hvd.chk];simpa using hvd.high
 -- the four blocks
 have a1:=aD w (.cells #[.slice (some ⟨gi,0,none⟩) N ci] 83);have b1:=heap_alloc_new w (.cells #[.slice (some ⟨gi,0,none⟩) N ci] 83);have z1:(w.alloc (.cells #[.slice (some ⟨gi,0,none⟩) N ci] 83)).heap.size=w.heap.size+1:=by simp
 have HALL:Hid (∃w4,w4=(((w.alloc (.cells #[.slice (some ⟨gi,0,none⟩) N ci] 83)).alloc (.map #[] 0)).alloc (.map #[] 0)).alloc (.cells #[.slice (some ⟨gi,0,none⟩) N ci,.slice none 0 0,.map (some (w.heap.size+1)),.map (some (w.heap.size+1+1)),.slice none 0 0,.bool false,.int .i64 0,.int .i64 0] 130)∧Below w.heap.size w w4∧w4.heap[w.heap.size]? =some (.cells #[.slice (some ⟨gi,0,none⟩) N ci] 83 (0,0))∧MapS w4 (w.heap.size+1) []∧MapS w4 (w.heap.size+1+1) []∧w4.heap[w.heap.size+1+1+1]? =some (.cells #[.slice (some ⟨gi,0,none⟩) N ci,.slice none 0 0,.map (some (w.heap.size+1)),.map (some (w.heap.size+1+1)),.slice none 0 0,.bool false,.int .i64 0,.int .i64 0] 130 (0,0))):=hid (by
  generalize w.alloc (.cells #[.slice (some ⟨gi,0,none⟩) N ci] 83)=u1 at *;have a2:=aD u1 (.map #[] 0);have b2:=MapS.made u1;have z2:(u1.alloc (.map #[] 0)).heap.size=w.heap.size+1+1:=by simp;omega
  rw[z1] at b2;generalize u1.alloc (.map #[] 0)=u2 at *;have a3:=aD u2 (.map #[] 0);have b3:=MapS.made u2;have z3:(u2.alloc (.map #[] 0)).heap.size=w.heap.size+1+1+1:=by simp;omega
  rw[z2] at b3;generalize u2.alloc (.map #[] 0)=u3 at *;have a4:=aD u3 (.cells #[.slice (some ⟨gi,0,none⟩) N ci,.slice none 0 0,.map (some (w.heap.size+1)),.map (some (w.heap.size+1+1)),.slice none 0 0,.bool false,.int .i64 0,.int .i64 0] 130);have b4:=heap_alloc_new u3 (.cells #[.slice (some ⟨gi,0,none⟩) N ci,.slice none 0 0,.map (some (w.heap.size+1)),.map (some (w.heap.size+1+1)),.slice none 0 0,.bool false,.int .i64 0,.int .i64 0] 130);rw[z3] at b4;have a12:=a1.trans (a2.mono a1.size);have a123:=a12.trans (a3.mono a12.size)
  exact ⟨_,rfl,a123.trans (a4.mono a123.size),(a4.block _ (by omega)).trans ((a3.block _ (by omega)).trans ((a2.block _ (by omega)).trans b1)),(b2.far a3).far a4,b3.far a4,b4⟩)
 clear a1 b1 z1;have HRD:=hid hread;have HVD:=hid hvd;have HIT:=hid hit;have HTX:=hid htx;have HC:=hid hc;have HOK:=hid hok;have HAV:=hid hav;have HML:=hid hml;have HVT:=hid hvt;have HITS:=hid hits;clear hread hvd hit htx hc hok hav hml hvt hits hEn;obtain ⟨nl,hnl⟩:∃nl,l.length=nl:=⟨_,rfl⟩
 have HNL:=hid hnl;rw[hnl] at hl ⊢;clear hnl
 go_enter Tryz.func56,Tryz.ntmps56
 go_wp2_with fail
 obtain ⟨w4,hw4,hB4,hI4,hV4,hF4,hR4⟩:=HALL.out;rw[←hw4];clear hw4 HALL hm1 hm2;have hsv:=nH (some ⟨gi,0,none⟩) gi ci N its ml w4 (by omega) HITS.out (fun _=>rfl) (ap hgi hB4.size) (HIT.out.below hB4 hgi) HTX.out ((hB4.cell (p:=⟨0,0,none⟩) hbig).trans HML.out);rw[HVT.out] at hsv;have i0:=ac hI4 0;have hI4l:=ay hI4;have HB4:=hid hB4;have HI4:=hid hI4;have HV4:=hid hV4;have HF4:=hid hF4;have HR4:=hid hR4;clear hB4 hI4 hV4 hF4 hR4
 go_wp2_with fail
 refine hsv.mono ?_;rintro e w5 ⟨rfl,hb5⟩;have HB5:=hid (HB4.out.trans (hb5.mono HB4.out.size));have HI5:=hid ((hb5.block _ (ay HI4.out)).trans HI4.out);have HR5:=hid ((hb5.block _ (ay HR4.out)).trans HR4.out);have HV5:=hid (HV4.out.far hb5);have HF5:=hid (HF4.out.far hb5);clear hb5 hsv i0 hI4l HB4 HI4 HR4 HV4 HF4;have hS5:w.heap.size<w5.heap.size:=ay HI5.out
 have hdc:=jQ (w.heap.size+1+1+1) (w.heap.size+1) (w.heap.size+1+1) gv cv (some ⟨gi,0,none⟩) none none av N ci 0 0 0 0 false 0 0 [] l w5 HR5.out HV5.out HAV.out (by omega) (by omega) (by rw[HNL.out];exact hl) (fun j p hp=>by
  obtain ⟨q1,q2⟩:=HC.out j p hp
  exact ⟨(HB5.out.cell (p:=⟨gv,j*2,none⟩) hgv).trans q1,(HB5.out.cell (p:=⟨gv,j*2+1,none⟩) hgv).trans q2⟩) HOK.out
 rw[HNL.out] at hdc;have i0:=ac HI5.out 0;have hl0:((N:Int)≤0)=False:=by simp;omega
 go_wp2_with fail
 refine hdc.mono ?_;rintro e w6 ⟨rfl,hd6⟩;have hne:∀k,k≠w.heap.size+1→k<w5.heap.size→w6.heap[k]? =w5.heap[k]? :=fun k hk hlt=>hd6.gr.block k hlt (fun e=>hk (aG e))
 have HB6:=hid (HB5.out.grown hd6.gr HB5.out.size (fun k e=>by have e':w.heap.size+1=k:=aG e;omega));have HI6:=hid ((hne w.heap.size (by omega) (ay HI5.out)).trans HI5.out);have HR6:=hid hd6.rd;have HV6:=hid hd6.mv;have HF6:=hid (HF5.out.but (hne (w.heap.size+1+1) (by omega) HF5.out.lt));clear hd6 hdc hne i0 HB5 HI5 HR5 HV5 HF5 hS5
 have hks:∀i (h:i<(its.map It.kids).length),w6.cell? ⟨gi,i*4+2,none⟩=some (.int .i64 (its.map It.kids)[i]):=fun i h=>by
  have hi:i<its.length:=by simpa using h
  have:=(HIT.out.below HB6.out hgi) i _ (aq hi) 2 (by omega);rw[this];simp[It.cells]
 have hen:=yD w.heap.size gi ci N (its.map It.kids) w6 (by omega) (by simpa using HITS.out) (ay HI6.out) (ap hgi HB6.out.size) (fun _=>ac HI6.out 0) hks;unfold EndsPost at hen
 have hck:endsF N (its.map It.kids)=some E:=by
  have:=HVD.out.chk;unfold dx at this
  split at this
  · rw[HITS.out] at this;exact this
  · cases this
 rw[hck] at hen;have i0:=ac HI6.out 0;have hI6l:=ay HI6.out;clear hks hck
 go_wp2_with fail
 refine hen.mono ?_;rintro e w7 ⟨hb7,ve,rfl,hown⟩;have hEl:E.length=N:=by rw[HVD.out.len,HITS.out]
 obtain ⟨ae,ge,ce,hve,hae,hgel,hce⟩:=gC (E:=E) (by rw[hEl];exact hown) (by have:=hb7.size;omega);rw[hEl] at hve;subst hve;obtain rfl:=hae (by omega);have hge6:w6.heap.size≤ge:=(hown.lt ge rfl).1;have HB7:=hid (HB6.out.trans (hb7.mono HB6.out.size));have hR7:w7.heap[w.heap.size+1+1+1]? =_:=(hb7.block _ (ay HR6.out)).trans HR6.out;have hgR:ge≠w.heap.size+1+1+1:=by have:=ay HR6.out;omega
 have HV7:=hid (HV6.out.far hb7);have HF7:=hid (HF6.out.far hb7);clear hb7 hen i0 hI6l HB6 HI6 HV6 HF6 hown;unfold rdC at hR7;have z1:=aM hR7 1;have d1:=ac hR7 1;have HR7:=hid hR7;have HR7l:=hid (ay hR7);clear hR7 HR6;have h8r:=heap_set HR7.out 1 (.slice (some ⟨ge,0,none⟩) N ce);have h8b:∀b,b≠w.heap.size+1+1+1→(w7.setCell ⟨w.heap.size+1+1+1,1,none⟩ (.slice (some ⟨ge,0,none⟩) N ce)).heap[b]? =w7.heap[b]? :=fun b hb=>aB _ _ _ _ hb
 have h8s:(w7.setCell ⟨w.heap.size+1+1+1,1,none⟩ (.slice (some ⟨ge,0,none⟩) N ce)).heap.size=w7.heap.size:=by simp
 have HB8:Hid (Below w.heap.size w (w7.setCell ⟨w.heap.size+1+1+1,1,none⟩ (.slice (some ⟨ge,0,none⟩) N ce))):=hid (HB7.out.setCell (show w.heap.size≤w.heap.size+1+1+1 by omega) _)
 have HRR:Hid (RDR (w.heap.size+1+1+1) (w.heap.size+1) (w.heap.size+1+1) gi N ci ge ce its E (fU [] l) (w7.setCell ⟨w.heap.size+1+1+1,1,none⟩ (.slice (some ⟨ge,0,none⟩) N ce))):=hid
  ⟨h8r,HIT.out.below HB8.out hgi,ap hgi HB8.out.size,fun t ht=>(World.cell?_of_block (h8b ge hgR)).trans (hce t ht),by rw[h8s];exact hgel,HV7.out.but (h8b _ (by omega)),HF7.out.but (h8b _ (by omega)),by rw[h8s];omega⟩
 have hrd:=HRD.out _ _ _ _ _ _ HB8.out HRR.out;clear h8r h8b hce
 go_wp2_with fail
 generalize w7.setCell ⟨w.heap.size+1+1+1,1,none⟩ (.slice (some ⟨ge,0,none⟩) N ce)=w8 at *;clear z1 d1 HR7 HR7l HB7 HV7 HF7;refine hrd.mono ?_;rintro e w9 ⟨v,rfl,⟨g,c,rfl,hNd,hgl,hp⟩,hb9⟩;have HB9:=hid (HB8.out.trans (hb9.mono HB8.out.size));have hal:=aD w9 (.cells #[.slice (some ⟨g,0,none⟩) ts.length c,.int .i64 d,.int .i64 s] 134);have HN:=hid (hNd.below hal hgl);have HBa:=hid (HB9.out.trans (hal.mono HB9.out.size));have hgl':=ap hgl hal.size;have hcl:=uI g ts.length c ts _ rfl hp hts HN.out hgl';clear hrd hb9 hNd hal;obtain ⟨m,hm⟩:∃m,ts.length=m:=⟨_,rfl⟩
 rw[hm] at hcl HBa ⊢;have HM:=hid hm;clear hm hp hts
 go_wp2_with fail
 refine hcl.mono ?_;rintro e wa ⟨g',c',rfl,hN',hg',-,hb'⟩;have HN':=hid hN';have HBf:=hid (HBa.out.trans (hb'.mono HBa.out.size));clear hcl hN' hb'
 go_wp2
 (try simp only[Exit.inBlock,Exit.then])
 exact bodyPost_ret (cO rfl _ _ _) rfl ⟨g',c',by rw[HM.out];rfl,HN'.out,hg',HBf.out⟩
theorem uJ (at1 er:Int) (gi N ci gv cv:Nat) (av:Option Addr) (its:List It) (E:List Nat) (l:List (ByteArray×Int)) (w:World) (hEn:Env w)
    (hN:N≤65536) (hN0:0<N) (hits:its.length=N) (hit:ItemsAt w gi its) (hgi:gi<w.heap.size) (hvd:Vd its E) (htx:∀x∈its,x.text.size<4294967281)
    (hav:l.length≠0→av=some ⟨gv,0,none⟩) (hgv:gv<w.heap.size) (hl:l.length≤100000) (hc:VarsAt w gv l) (hok:∀q∈l,bH q.1.toList=true∧1≤q.2∧q.2≤4)
    (hread:∀(R V F ge ce:Nat) (W:World),Below w.heap.size w W→RDR R V F gi N ci ge ce its E (fU [] l) W→Calls Tryz.prog 102 #[.pointer (some ⟨R,0,none⟩),.int .i64 0] W (fE R (rdC (some ⟨gi,0,none⟩) N ci (some ⟨ge,0,none⟩) N ce V F none 0 0 false) at1 er W)):
    Calls Tryz.prog 56 #[.slice (some ⟨gi,0,none⟩) N ci,.int .i64 0,.slice av l.length cv,.slice none 0 0] w (fun e w'=>e=.returned (.tuple #[.slice none 0 0,.int .i64 at1,.int .i64 er])∧Below w.heap.size w w'):=by
 have hm1:=@cF Tryz.prog 112;have hm2:=@cF Tryz.prog 127;obtain ⟨ml,hml⟩:=hEn.len;have hbig:=hEn.big;have hvt:gB its=true:=by unfold gB;rw[hvd.chk];simpa using hvd.high
 -- the four blocks
 have a1:=aD w (.cells #[.slice (some ⟨gi,0,none⟩) N ci] 83);have b1:=heap_alloc_new w (.cells #[.slice (some ⟨gi,0,none⟩) N ci] 83);have z1:(w.alloc (.cells #[.slice (some ⟨gi,0,none⟩) N ci] 83)).heap.size=w.heap.size+1:=by simp
 have HALL:Hid (∃w4,w4=(((w.alloc (.cells #[.slice (some ⟨gi,0,none⟩) N ci] 83)).alloc (.map #[] 0)).alloc (.map #[] 0)).alloc (.cells #[.slice (some ⟨gi,0,none⟩) N ci,.slice none 0 0,.map (some (w.heap.size+1)),.map (some (w.heap.size+1+1)),.slice none 0 0,.bool false,.int .i64 0,.int .i64 0] 130)∧Below w.heap.size w w4∧w4.heap[w.heap.size]? =some (.cells #[.slice (some ⟨gi,0,none⟩) N ci] 83 (0,0))∧MapS w4 (w.heap.size+1) []∧MapS w4 (w.heap.size+1+1) []∧w4.heap[w.heap.size+1+1+1]? =some (.cells #[.slice (some ⟨gi,0,none⟩) N ci,.slice none 0 0,.map (some (w.heap.size+1)),.map (some (w.heap.size+1+1)),.slice none 0 0,.bool false,.int .i64 0,.int .i64 0] 130 (0,0))):=hid (by
  generalize w.alloc (.cells #[.slice (some ⟨gi,0,none⟩) N ci] 83)=u1 at *;have a2:=aD u1 (.map #[] 0);have b2:=MapS.made u1;have z2:(u1.alloc (.map #[] 0)).heap.size=w.heap.size+1+1:=by simp;omega
  rw[z1] at b2;generalize u1.alloc (.map #[] 0)=u2 at *;have a3:=aD u2 (.map #[] 0);have b3:=MapS.made u2;have z3:(u2.alloc (.map #[] 0)).heap.size=w.heap.size+1+1+1:=by simp;omega
  rw[z2] at b3;generalize u2.alloc (.map #[] 0)=u3 at *;have a4:=aD u3 (.cells #[.slice (some ⟨gi,0,none⟩) N ci,.slice none 0 0,.map (some (w.heap.size+1)),.map (some (w.heap.size+1+1)),.slice none 0 0,.bool false,.int .i64 0,.int .i64 0] 130);have b4:=heap_alloc_new u3 (.cells #[.slice (some ⟨gi,0,none⟩) N ci,.slice none 0 0,.map (some (w.heap.size+1)),.map (some (w.heap.size+1+1)),.slice none 0 0,.bool false,.int .i64 0,.int .i64 0] 130);rw[z3] at b4;have a12:=a1.trans (a2.mono a1.size);have a123:=a12.trans (a3.mono a12.size)
  exact ⟨_,rfl,a123.trans (a4.mono a123.size),(a4.block _ (by omega)).trans ((a3.block _ (by omega)).trans ((a2.block _ (by omega)).trans b1)),(b2.far a3).far a4,b3.far a4,b4⟩)
 clear a1 b1 z1;have HRD:=hid hread;have HVD:=hid hvd;have HIT:=hid hit;have HTX:=hid htx;have HC:=hid hc;have HOK:=hid hok;have HAV:=hid hav;have HML:=hid hml;have HVT:=hid hvt;have HITS:=hid hits;clear hread hvd hit htx hc hok hav hml hvt hits hEn;obtain ⟨nl,hnl⟩:∃nl,l.length=nl:=⟨_,rfl⟩
 have HNL:=hid hnl;rw[hnl] at hl ⊢;clear hnl
 go_enter Tryz.func56,Tryz.ntmps56
 go_wp2_with fail
 obtain ⟨w4,hw4,hB4,hI4,hV4,hF4,hR4⟩:=HALL.out;rw[←hw4];clear hw4 HALL hm1 hm2;have hsv:=nH (some ⟨gi,0,none⟩) gi ci N its ml w4 (by omega) HITS.out (fun _=>rfl) (ap hgi hB4.size) (HIT.out.below hB4 hgi) HTX.out ((hB4.cell (p:=⟨0,0,none⟩) hbig).trans HML.out);rw[HVT.out] at hsv;have i0:=ac hI4 0;have hI4l:=ay hI4;have HB4:=hid hB4;have HI4:=hid hI4;have HV4:=hid hV4;have HF4:=hid hF4;have HR4:=hid hR4;clear hB4 hI4 hV4 hF4 hR4
 go_wp2_with fail
 refine hsv.mono ?_;rintro e w5 ⟨rfl,hb5⟩;have HB5:=hid (HB4.out.trans (hb5.mono HB4.out.size));have HI5:=hid ((hb5.block _ (ay HI4.out)).trans HI4.out);have HR5:=hid ((hb5.block _ (ay HR4.out)).trans HR4.out);have HV5:=hid (HV4.out.far hb5);have HF5:=hid (HF4.out.far hb5);clear hb5 hsv i0 hI4l HB4 HI4 HR4 HV4 HF4;have hS5:w.heap.size<w5.heap.size:=ay HI5.out
 have hdc:=jQ (w.heap.size+1+1+1) (w.heap.size+1) (w.heap.size+1+1) gv cv (some ⟨gi,0,none⟩) none none av N ci 0 0 0 0 false 0 0 [] l w5 HR5.out HV5.out HAV.out (by omega) (by omega) (by rw[HNL.out];exact hl) (fun j p hp=>by
  obtain ⟨q1,q2⟩:=HC.out j p hp
  exact ⟨(HB5.out.cell (p:=⟨gv,j*2,none⟩) hgv).trans q1,(HB5.out.cell (p:=⟨gv,j*2+1,none⟩) hgv).trans q2⟩) HOK.out
 rw[HNL.out] at hdc;have i0:=ac HI5.out 0;have hl0:((N:Int)≤0)=False:=by simp;omega
 go_wp2_with fail
 refine hdc.mono ?_;rintro e w6 ⟨rfl,hd6⟩;have hne:∀k,k≠w.heap.size+1→k<w5.heap.size→w6.heap[k]? =w5.heap[k]? :=fun k hk hlt=>hd6.gr.block k hlt (fun e=>hk (aG e))
 have HB6:=hid (HB5.out.grown hd6.gr HB5.out.size (fun k e=>by have e':w.heap.size+1=k:=aG e;omega));have HI6:=hid ((hne w.heap.size (by omega) (ay HI5.out)).trans HI5.out);have HR6:=hid hd6.rd;have HV6:=hid hd6.mv;have HF6:=hid (HF5.out.but (hne (w.heap.size+1+1) (by omega) HF5.out.lt));clear hd6 hdc hne i0 HB5 HI5 HR5 HV5 HF5 hS5
 have hks:∀i (h:i<(its.map It.kids).length),w6.cell? ⟨gi,i*4+2,none⟩=some (.int .i64 (its.map It.kids)[i]):=fun i h=>by
  have hi:i<its.length:=by simpa using h
  have:=(HIT.out.below HB6.out hgi) i _ (aq hi) 2 (by omega);rw[this];simp[It.cells]
 have hen:=yD w.heap.size gi ci N (its.map It.kids) w6 (by omega) (by simpa using HITS.out) (ay HI6.out) (ap hgi HB6.out.size) (fun _=>ac HI6.out 0) hks;unfold EndsPost at hen
 have hck:endsF N (its.map It.kids)=some E:=by
  have:=HVD.out.chk;unfold dx at this
  split at this
  · rw[HITS.out] at this;exact this
  · cases this
 rw[hck] at hen;have i0:=ac HI6.out 0;have hI6l:=ay HI6.out;clear hks hck
 go_wp2_with fail
 refine hen.mono ?_;rintro e w7 ⟨hb7,ve,rfl,hown⟩;have hEl:E.length=N:=by rw[HVD.out.len,HITS.out]
 obtain ⟨ae,ge,ce,hve,hae,hgel,hce⟩:=gC (E:=E) (by rw[hEl];exact hown) (by have:=hb7.size;omega);rw[hEl] at hve;subst hve;obtain rfl:=hae (by omega);have hge6:w6.heap.size≤ge:=(hown.lt ge rfl).1;have HB7:=hid (HB6.out.trans (hb7.mono HB6.out.size));have hR7:w7.heap[w.heap.size+1+1+1]? =_:=(hb7.block _ (ay HR6.out)).trans HR6.out;have hgR:ge≠w.heap.size+1+1+1:=by have:=ay HR6.out;omega
 have HV7:=hid (HV6.out.far hb7);have HF7:=hid (HF6.out.far hb7);clear hb7 hen i0 hI6l HB6 HI6 HV6 HF6 hown;unfold rdC at hR7;have z1:=aM hR7 1;have d1:=ac hR7 1;have HR7:=hid hR7;have HR7l:=hid (ay hR7);clear hR7 HR6;have h8r:=heap_set HR7.out 1 (.slice (some ⟨ge,0,none⟩) N ce);have h8b:∀b,b≠w.heap.size+1+1+1→(w7.setCell ⟨w.heap.size+1+1+1,1,none⟩ (.slice (some ⟨ge,0,none⟩) N ce)).heap[b]? =w7.heap[b]? :=fun b hb=>aB _ _ _ _ hb
 have h8s:(w7.setCell ⟨w.heap.size+1+1+1,1,none⟩ (.slice (some ⟨ge,0,none⟩) N ce)).heap.size=w7.heap.size:=by simp
 have HB8:Hid (Below w.heap.size w (w7.setCell ⟨w.heap.size+1+1+1,1,none⟩ (.slice (some ⟨ge,0,none⟩) N ce))):=hid (HB7.out.setCell (show w.heap.size≤w.heap.size+1+1+1 by omega) _)
 have HRR:Hid (RDR (w.heap.size+1+1+1) (w.heap.size+1) (w.heap.size+1+1) gi N ci ge ce its E (fU [] l) (w7.setCell ⟨w.heap.size+1+1+1,1,none⟩ (.slice (some ⟨ge,0,none⟩) N ce))):=hid
  ⟨h8r,HIT.out.below HB8.out hgi,ap hgi HB8.out.size,fun t ht=>(World.cell?_of_block (h8b ge hgR)).trans (hce t ht),by rw[h8s];exact hgel,HV7.out.but (h8b _ (by omega)),HF7.out.but (h8b _ (by omega)),by rw[h8s];omega⟩
 have hrd:=HRD.out _ _ _ _ _ _ HB8.out HRR.out;clear h8r h8b hce
 go_wp2_with fail
 generalize w7.setCell ⟨w.heap.size+1+1+1,1,none⟩ (.slice (some ⟨ge,0,none⟩) N ce)=w8 at *;clear z1 d1 HR7 HR7l HB7 HV7 HF7;refine hrd.mono ?_;rintro e w9 ⟨rfl,hr9,hg9⟩;have HB9:=hid (HB8.out.grown hg9 HB8.out.size (fun k e=>by have e':w.heap.size+1+1+1=k:=aG e;omega));have hal:=aD w9 (.cells #[.slice none 0 0,.int .i64 0,.int .i64 0] 134);have hra:=(hal.block _ (ay hr9)).trans hr9;have HBa:=hid (HB9.out.trans (hal.mono HB9.out.size));unfold rdC at hra;clear hrd hg9 hal hr9
 go_upto_region 7 with fail
 generalize w9.alloc (.cells #[.slice none 0 0,.int .i64 0,.int .i64 0] 134)=wa at *;have r6:=ac hra 6;have r7:=ac hra 7;clear hra
 go_quiet (fail)
 go_wp2_with fail
 (try simp only[Exit.inBlock,Exit.then])
 exact bodyPost_ret (cO rfl _ _ _) rfl ⟨rfl,aO HBa.out _⟩
end
end Go.Proofs.YtapdbeaoakcjeaaGreatDoor.Se

/- (*reader).list at an operator. -/
import Derived.Test.YtapdbeaoakcjeaaGreatDoorEVB
set_option maxRecDepth 100000
set_option maxHeartbeats 40000000
open Go.Lib (hid)
namespace Go.Proofs.YtapdbeaoakcjeaaGreatDoor.Se
open Go.RowKit Nmx
section
theorem yc (hd:ByteArray) (ts:List Nd) (depth sort:Int) (R V F gi ge:Nat) (ab:Option Addr) (N ci ce nb cb i h:Nat) (p er:Int) (its:List It) (E:List Nat) (ops:List Nat) (kvs:List (ByteArray×Value)) (op least most hk hp:Int) (L:List (List Nd×Int×Int)) (w:World)
    (hR:w.heap[R]? =some (rdC (some ⟨gi,0,none⟩) N ci (some ⟨ge,0,none⟩) N ce V F ab nb cb false p er)) (hN:N≤65536) (hits:its.length=N) (hit:ItemsAt w gi its) (hgi:gi<w.heap.size) (hEl:E.length=N) (hE:∀t (h:t<E.length),w.cell? ⟨ge,t,none⟩=some (.int .i64 E[t])) (hge:ge<w.heap.size) (hup:∀j,j<N→j<E.getD j 0) (hbd:∀j,j<N→E.getD j 0≤N)
    (hi:i<N) (htr:trail E (i+1) (E.getD i 0)=h::ops) (hh:its[h]? =some ⟨1,hd,hk,hp⟩) (hmf:MapS w F kvs) (hmiss:dl hd kvs 0=none) (hcmp:(hd.toList==[108,101,116])=false∧(hd.toList==[100,105,118])=false∧(hd.toList==[109,111,100])=false∧(hd.toList==[42])=false∧(hd.toList==[47])=false∧(hd.toList==[45])=false∧(hd.toList==[62])=false∧(hd.toList==[62,61])=false∧(hd.toList==[100,105,115,116,105,110,99,116])=false)
    (hop:∀W,Calls Tryz.prog 173 #[.string hd] W fun e w'=>e=.returned (.tuple #[.int .i64 op,.int .i64 least,.int .i64 most])∧w'=W) (h0:¬op=0) (h5:¬op=5) (h16:¬op=16) (h17:¬op=17) (hpos:0<ops.length) (hlo:least≤ops.length) (hhi:(ops.length:Int)≤most)
    (hL:L.length=ops.length) (hrd:∀k (hk:k<ops.length) (hl:k<L.length) W,Below w.heap.size w W→Calls Tryz.prog 102 #[.pointer (some ⟨R,0,none⟩),.int .i64 (ops[k]:Nat)] W (cC L[k].1 L[k].2.1 L[k].2.2 W))
    (hfin:∀(W:World) (b c:Nat),Below w.heap.size w W→KSz W (some ⟨b,0,none⟩) b L→Calls Tryz.prog 174 #[.pointer (some ⟨R,0,none⟩),.int .i64 i,.agg #[.int .i64 op,.int .i64 0,.string ⟨#[]⟩,.string ⟨#[]⟩,.int .i64 0],.slice (some ⟨b,0,none⟩) ops.length c] W (cC ts depth sort W)):
    Calls Tryz.prog 141 #[.pointer (some ⟨R,0,none⟩),.int .i64 i] w (cC ts depth sort w):=by
 obtain ⟨i3,hi3,hx0,hx1,hx2⟩:=info_parts nQ;have hRl:=ay hR;have hal:=aD w (.cells #[.slice none 0 0,.int .i64 0,.int .i64 0] 134);have hw0:=heap_alloc_new w (.cells #[.slice none 0 0,.int .i64 0,.int .i64 0] 134);have hz:(w.alloc (.cells #[.slice none 0 0,.int .i64 0,.int .i64 0] 134)).heap.size=w.heap.size+1:=by simp
 have HRD:=hid hrd;have HFIN:=hid hfin;have HOP:=hid hop;have HL:=hid hL;have HMISS:=hid hmiss;have hnb:ops.length+1≤65536:=by have:=eI E (i+1) (E.getD i 0);rw[htr] at this;have:=hbd i hi;simp only[au] at *;omega
 have HRLT:Hid (R<w.heap.size):=hid hRl;have HHI:Hid (h<N):=hid (by have:=(List.getElem?_eq_some_iff.1 hh).1;omega);have hgE:∀W,Below w.heap.size w W→∀t (h:t<E.length),W.cell? ⟨ge,t,none⟩=some (.int .i64 E[t]):=fun W hW t ht=>(hW.cell (p:=⟨ge,t,none⟩) hge).trans (hE t ht)
 have hgEi:∀W,Below w.heap.size w W→W.cell? ⟨ge,i,none⟩=some (.int .i64 (E.getD i 0:Nat)):=fun W hW=>by
  rw[hgE W hW i (by omega),aw,aq (by omega)];rfl
 have hgR:∀W,Below w.heap.size w W→W.heap[R]? =some (.cells #[.slice (some ⟨gi,0,none⟩) N ci,.slice (some ⟨ge,0,none⟩) N ce,.map (some V),.map (some F),.slice ab nb cb,.bool false,.int .i64 p,.int .i64 er] 130 (0,0)):=fun W hW=>(hW.block R hRl).trans hR
 have hgH:∀W,Below w.heap.size w W→W.cell? ⟨gi,h*4,none⟩=some (.int .i64 1)∧W.cell? ⟨gi,h*4+1,none⟩=some (.string hd):=fun W hW=>by
  have a0:=(hit.below hW hgi) h _ hh 0 (by omega);have a1:=(hit.below hW hgi) h _ hh 1 (by omega);exact ⟨a0,a1⟩
 have hgF:∀W,Below w.heap.size w W→MapS W F kvs:=fun W hW=>hmf.but (hW.block F hmf.lt)
 have hch:∀W,Below w.heap.size w W→Calls Tryz.prog 98 #[.slice (some ⟨ge,0,none⟩) N ce,.int .i64 ((i:Int)+1),.int .i64 (E.getD i 0:Nat)] W fun e w'=>∃v,e=.returned v∧w'.ownsRow W.heap.size 3 1 v (trail E (i+1) (E.getD i 0)).length (eU (trail E (i+1) (E.getD i 0)))∧Below W.heap.size W w':=fun W hW=>by
  have:=d7 (some ⟨ge,0,none⟩) ge ce E (i+1) (E.getD i 0) W (by omega) (fun _=>rfl) (ap hge hW.size) (hgE W hW) (by rw[hEl];exact hbd i hi) (fun j hj=>hup j (by have:=hbd i hi;omega)) (fun j hj=>by rw[hEl] at hj ⊢;exact hbd j hj) (by omega);rwa [hEl,show ((i+1:Nat):Int)=(i:Int)+1 from rfl] at this
 rw[htr] at hch;have HCH:=hid hch;have HgEi:=hid hgEi;have HgR:=hid hgR;have HgH:=hid hgH;have HgF:=hid hgF;have hEi0:E.getD i 0≤65536:=by have:=hbd i hi;omega
 have HB0:=hid hal;have HX0:=hid hw0;have HZ:=hid hz;have HSP:Hid (0<w.heap.size):=hid (by omega);clear hrd hfin hop hL hmiss hgE hgEi hgR hgH hgF hch hR hit hE hup hbd htr hh hmf hal hw0 hz hits hEl hRl;generalize E.getD i 0=up1 at *;obtain ⟨n,hn⟩:∃n,ops.length=n:=⟨_,rfl⟩
 rw[hn] at hlo hhi hpos hnb;have HN:=hid hn;have g0:(op==0)=false:=by simp[h0]
 have g5:(op==5)=false:=by simp[h5]
 have g16:(op==16)=false:=by simp[h16]
 have g17:(op==17)=false:=by simp[h17]
 have gl:¬(n:Int)<least:=by omega
 have gm:¬most<(n:Int):=by omega
 clear hn h0 h5 h16 h17;obtain ⟨t1,t2,t3,t4,t5,t6,t7,t8,t9⟩:=hcmp
 go_enter Tryz.func141,Tryz.ntmps141
 have hwr:IntKind.i64.wrap ((i:Int)+1)=(i:Int)+1:=by rw[IntKind.wrap_i64];omega
 go_upto_region 1 with fail
 generalize w.alloc (.cells #[.slice none 0 0,.int .i64 0,.int .i64 0] 134)=w1 at *;refine aV [[],[0],[0,1],[0,1,2],[],[4],[],[6],[6,7],[6,7,8],[],[6,7,8,9,10],[6,7,8,9,10,11],[0,1,2,3,4,5,6,7,8,9,10,11,12],[0,1,2,3,4,5,6,7,8,9,10,11,12,13]] (fun W=>Below w1.heap.size w1 W) (fun _=>True) ?_
 iterate 13
  apply aR
  · intro x;go_simp;done
  · intro x W R hW hF hR;have hWw:=HB0.out.trans (hW.mono HB0.out.size);have c0:=ac (HgR.out W hWw) 1;have c1:=HgEi.out W hWw;clear hF;unfold aN
    go_simp
    simp only[aF];exact hR _ (ah _ _)
  simp only[Act.put,aa,aj,am]
 refine cY (fun v W=>∃g c,v=.slice (some ⟨g,0,none⟩) (n+1) c∧w1.heap.size≤g∧g<W.heap.size∧n+1≤c∧∀t (h':t<(h::ops).length),W.cell? ⟨g,t,none⟩=some (.int .i64 ((h::ops)[t]:Nat))) (fun _ _ _ h hb=>let ⟨g,c,h1,h2,h3,h5,h4⟩:=h;⟨g,c,h1,h2,ap h3 hb.size,h5,fun t ht=>(hb.cell (p:=⟨g,t,none⟩) h3).trans (h4 t ht)⟩) ?_ ?_ ?_
 · intro x;go_simp;done
 · intro x W R hW hF hR;have hWw:=HB0.out.trans (hW.mono HB0.out.size);clear hF;unfold aN
   go_simp
   simp only[aF];refine (HCH.out W hWw).mono ?_;rintro e w' ⟨v,rfl,hown,hb⟩;obtain ⟨_,q1 | ⟨g,cap,cur,hv,q2,q3,q4,q5⟩⟩:=id hown
   · exact absurd q1.2 (by simp)
   · have hrow:=gC hown (by have:=hb.size;have:=hW.size;have:=HZ.out;omega);obtain ⟨ao,g',cap',hv',hao,hlt',hcl⟩:=hrow;obtain rfl:=hao (by simp);rw[hv] at hv';have e1:g=g':=by injection hv' with e;injection e with e;injection e
     subst e1;exact ⟨v,rfl,hR _ _ ⟨g,cap,by rw[hv,au,HN.out],aC hW.size q2,hlt',by rw[au,HN.out] at q4;exact q4,hcl⟩ hb⟩
 simp only[Act.put,aa,aj,am,au,aH,Nat.zero_add,Nat.reduceAdd];refine ez (fun x=>x 14=x 13) (fun x x' hx h=>by rw[←hx 14 (.inl rfl),←hx 13 (.inr (List.contains_iff_mem.1 rfl))];exact h) ?_ ?_ ?_
 · intro x;go_simp;done
 · intro x W R hW hF hR;clear hF hW;unfold aN
   go_simp
   simp only[aF];refine hR _ _ ?_ (ah _ _);show bM x 14 _ 14=bM x 14 _ 13;rw[bp,bC (i:=14) (j:=13) _ _ (by decide)]
 simp only[Act.put,aa,aj,am,au,aH,Nat.zero_add,Nat.reduceAdd];refine cz (by kernel_rfl) (by kernel_rfl) (by kernel_rfl) (fun _ _ h hb=>h.trans (hb.mono h.size)) (fun _ _ _ _=>trivial) (fun _ _=>trivial) (aQ (ah _ _) 1) ?_;intro x W hE hW hF hD;clear hD;have hx14:=hF.1.1;have hm:=hF.2.1.2 rfl;replace hW:=hW rfl;simp only[AK.free,AK.fact] at hx14 hm;obtain ⟨gc,cc,hx13,hgc1,hgc2,hcc,hrow⟩:=hm;rw[hx13] at hx14;have HB5:=hid (HB0.out.trans (hW.mono HB0.out.size));have HX5:=hid ((hW.block _ (ay HX0.out)).trans HX0.out)
 have HROW:Hid (∀W',Below W.heap.size W W'→W'.cell? ⟨gc,0,none⟩=some (.int .i64 (h:Nat))∧∀k (hk:k<ops.length),W'.cell? ⟨gc,1+k,none⟩=some (.int .i64 (ops[k]:Nat))):=hid (fun W' hW'=>by
  refine ⟨(hW'.cell (p:=⟨gc,0,none⟩) hgc2).trans (hrow 0 (by simp)),fun k hk=>?_⟩;rw[Nat.add_comm];have:=(hW'.cell (p:=⟨gc,k+1,none⟩) hgc2).trans (hrow (k+1) (by simp;omega))
  simpa using this)
 have HS5:Hid (w.heap.size<W.heap.size):=hid (ay HX5.out);clear hF hW hx13 hrow HB0 HX0 HCH HZ hgc1;simp only[hx14]
 go_upto_region 2 with fail
 clear hx14;generalize hw5:W=w5 at *;clear hw5;have hn0:((n:Int)+1==0)=false:=by simp;omega
 have hn1:(0:Int)<(n:Int)+1:=by omega
 have hle1:(1:Int)≤(n:Int)+1:=by omega
 have hcc1:¬cc=1:=by omega
 have hh0:=HHI.out;refine aV [[],[0],[0,1],[0,1,2],[0,1,2,3],[0,1,2,3,4],[0,1,2,3,4,5],[0,1,2,3,4,5,6],[0,1,2,3],[0,1,2,3,8],[0,1,2,3,8,9],[0,1,2,3,4,5,6,7,8,9,10],[0,1,2,3,4,5,6,7,8,9,10,11],[0,1,2,3,4,5,6,7,8,9,10,11,12],[0,1,2,3,4,5,6,7,8,9,10,11,12,13],[0,1,2,3,4,5,6,7,8,9,10,11,12,13,14]] (fun W=>Below w5.heap.size w5 W) (fun _=>True) ?_
 iterate 16
  apply aR
  · intro x;go_simp;done
  · intro x W R hW hF hR;have hWw:=HB5.out.trans (hW.mono HB5.out.size);have c0:=ac (HgR.out W hWw) 0;obtain ⟨c1,c2⟩:=HgH.out W hWw;have c3:=(HROW.out W hW).1;clear hF;unfold aN
    go_simp
    simp only[aF];exact hR _ (ah _ _)
  simp only[Act.put,aa,aj,am]
 refine cz (by kernel_rfl) (by kernel_rfl) (by kernel_rfl) (fun _ _ h hb=>h.trans (hb.mono h.size)) (fun _ _ _ _=>trivial) (fun _ _=>trivial) (aQ (ah _ _) 1) ?_;intro x W hE hW hF hD;clear hD;replace hW:=hW rfl;have HB6:=hid hW;clear hF hW;generalize hw6:W=w6 at *;clear hw6
 go_upto_region 4 with fail
 refine aV [[],[0],[0,1],[0,1,2],[],[4],[4,5],[0,1,2,3,4,5,6],[0,1,2,3,4,5,6,7],[0,1,2,3,4,5,6,7,8],[],[10],[0,1,2,3,4,5,6,7,8,9],[0,1,2,3,4,5,6,7,8,9,10,11,12]] (fun W=>Below w5.heap.size w5 W) (fun _=>True) ?_
 iterate 11
  apply aR
  · intro x;go_simp;done
  · intro x W R hW hF hR;have hWw:=HB5.out.trans (hW.mono HB5.out.size);have c0:=ac (HgR.out W hWw) 0;obtain ⟨c1,c2⟩:=HgH.out W hWw;have c3:=(HROW.out W hW).1;clear hF;unfold aN
    go_simp
    simp only[aF];exact hR _ (ah _ _)
  simp only[Act.put,aa,aj,am]
 refine aR (v:=.slice (some ⟨gc,1,none⟩) n (cc-1)) ?_ ?_ ?_
 · intro x;go_simp;done
 · intro x W R hW hF hR;clear hF;unfold aN
   go_simp
   simp only[aF];exact hR _ (ah _ _)
 simp only[Act.put,aa,aj,am]
 iterate 2
  apply aR
  · intro x;go_simp;done
  · intro x W R hW hF hR;have hWw:=HB5.out.trans (hW.mono HB5.out.size);have c0:=ac (HgR.out W hWw) 0;obtain ⟨c1,c2⟩:=HgH.out W hWw;have c3:=(HROW.out W hW).1;clear hF;unfold aN
    go_simp
    simp only[aF];exact hR _ (ah _ _)
  simp only[Act.put,aa,aj,am]
 refine cz (by kernel_rfl) (by kernel_rfl) (by kernel_rfl) (fun _ _ h hb=>h.trans (hb.mono h.size)) (fun _ _ _ _=>trivial) (fun _ _=>trivial) (HB6.out.trans (aQ (ah _ _) 1)) ?_;intro x W hE hW hF hD;clear hD;replace hW:=hW rfl;have HB6:=hid hW;clear hF hW;generalize hw6:W=w6 at *;clear hw6;have HB56:=hid (HB5.out.trans (HB6.out.mono HB5.out.size));have HS6:Hid (w.heap.size<w6.heap.size):=hid (ap HS5.out HB6.out.size);have HX6:=hid ((HB6.out.block _ HS5.out).trans HX5.out);have fr:=ac (HgR.out w6 HB56.out) 3;have hRl6:=ay (HgR.out w6 HB56.out);have hge6:=ap hge HB56.out.size
 go_wp2_with (first | (go_at_call 173;refine (HOP.out _).mono ?_;rintro e w' ⟨rfl,hw'⟩;obtain rfl:=hw'.symm) | (at_lookup;go_loud (refine bO rfl 9 117 127 _ _ rfl Tryz.underlying9 Tryz.underlying127 F _ rfl (HgF.out w6 HB56.out) hd rfl _ HMISS.out (qu _) ?_)) | (at_make;go_loud (refine wpList_make_full _ rfl (.tmp 135) (.tmp 135) 193 rfl w6.heap.size 134 i3 _ 3 (by kernel_rfl) hi3 hx0 hx1 .i64 .i64 n n n rfl rfl rfl rfl (by rw[hx2];omega) (by unfold maxLen;omega) (by simp) ?_)))
 intro w8 hown hgr;have hal:=aD w6 (.cells #[.string ⟨#[]⟩,.slice none 0 0,.int .i64 0] 117);obtain ⟨mz1,mz2⟩:=mz n;have HLK:Hid (LK w6.heap.size w6 (w6.heap.size+1) n L 0 w8):=hid ⟨hal.trans ((ah _ _).grown hgr hal.size (fun k h=>by cases h)),aC hal.size hgr.size,_,mz1,fun j hj=>⟨_,_,_,mz2 j hj⟩,fun j t hj=>by omega,hown⟩;clear hown hgr hal mz1 mz2 fr hRl6 hge6;generalize w6.heap.size+1=B at *
 go_wp2_with fail
 go_loopw [139] (fun v wr=>∃k:Nat,k≤n∧v=.int .i64 k∧LK w6.heap.size w6 B n L k wr) (fun v _=>n-(intOf v).toNat)
 case atStart=>exact ⟨0,aE _,rfl,HLK.out⟩
 case round=>
  clear HLK;obtain ⟨k,hk,rfl,hlk⟩:=hrel;have HLK:=hid hlk;clear hlk;have hk0:(0:Int)≤(k:Int):=by omega
  have HB7:=hid (HB56.out.trans (HLK.out.bel.mono HB56.out.size));have HB57:=hid (HB6.out.trans (HLK.out.bel.mono HB6.out.size))
  by_cases hkn:k<n
  · have hkn':(k:Int)<(n:Int):=by omega
    have hko:k<ops.length:=by rw[HN.out];exact hkn
    have hkl:k<L.length:=by rw[HL.out];exact hko
    have co:=(HROW.out wr HB57.out).2 k hko;have hgcl:gc<wr.heap.size:=ap hgc2 HB57.out.size;have hrd:=HRD.out k hko hkl wr HB7.out;have HLKk:Hid (L[k]? =some L[k]):=hid (aq hkl);generalize ops[k]=ok at *;generalize L[k]=tk at *
    go_wp2_with fail
    refine hrd.mono ?_;rintro e w9 ⟨v,rfl,⟨g,c,rfl,hNd,hgl,hp⟩,hb9⟩;have HLK9:=hid (HLK.out.far hb9);have HND:=hid hNd;have hln:∃ln,tk.1.length=ln:=⟨_,rfl⟩
    obtain ⟨ln,hln⟩:=hln;have HLN:=hid hln;rw[hln];clear hrd hb9 hNd co hgcl HLK HB7 HB57 hln
    go_upto_region 24 with fail
    have hal:=aD w9 (.cells #[.slice (some ⟨g,0,none⟩) ln c,.int .i64 tk.2.1,.int .i64 tk.2.2] 134);have hbx:=heap_alloc_new w9 (.cells #[.slice (some ⟨g,0,none⟩) ln c,.int .i64 tk.2.1,.int .i64 tk.2.2] 134);have HLKa:=hid (HLK9.out.far hal);have HNa:=hid (HND.out.below hal hgl);have hgla:g<(w9.alloc (.cells #[.slice (some ⟨g,0,none⟩) ln c,.int .i64 tk.2.1,.int .i64 tk.2.2] 134)).heap.size:=ap hgl hal.size;clear hal HLK9 HND;generalize w9.alloc (.cells #[.slice (some ⟨g,0,none⟩) ln c,.int .i64 tk.2.1,.int .i64 tk.2.2] 134)=wa at *;generalize w9.heap.size=D at *;have b0:=ac hbx 0;have b1:=ac hbx 1;have b2:=ac hbx 2;obtain ⟨⟨u0,hu0⟩,fz0⟩:=HLKa.out.B.2.2 (k*3) (by omega);obtain ⟨⟨u1,hu1⟩,fz1⟩:=HLKa.out.B.2.2 (k*3+1) (by omega);obtain ⟨⟨u2,hu2⟩,fz2⟩:=HLKa.out.B.2.2 (k*3+2) (by omega);have HPUT:=hid (HLKa.out.put (c:=c) hkn HLKk.out HNa.out hgla hp);rw[HLN.out] at HPUT;clear hbx HLKa HNa hgl hgla
    go_wp2
    go_roundw
    case rel=>exact ⟨k+1,by omega,by go_num,HPUT.out⟩
    case measure=>simp[intOf];omega
  · obtain rfl:k=n:=by omega
    have hksz:=HLK.out.ksz (by rw[HL.out,HN.out]);have hfin:=HFIN.out wr B k HB7.out hksz;rw[HN.out] at hfin;have HX7:=hid ((HLK.out.bel.block _ HS6.out).trans HX6.out);clear hksz
    go_wp2_with fail
    refine hfin.mono ?_;rintro e w3 ⟨v,rfl,⟨G,cG,rfl,hN3,hlG,hts⟩,hb⟩;have HB3:=hid (HB7.out.trans (hb.mono HB7.out.size));have hw3:=(hb.block _ (ay HX7.out)).trans HX7.out;clear hb hfin;generalize hSS:w.heap.size=S at *;have HS:=hid hSS;have z0:=aM hw3 0;have z1:=aM hw3 1;have z2:=aM hw3 2;have d0:=ac hw3 0;have d1:=ac hw3 1;have d2:=ac hw3 2;have HW3:=hid hw3;clear hSS hw3;have HN3:=hid hN3;clear hN3;obtain ⟨m,hm⟩:∃m,ts.length=m:=⟨_,rfl⟩
    rw[hm];have HNL:=hid hm;clear hm
    go_wp2
    (try simp only[Exit.inBlock,Exit.then])
    have hw4:=heap_set (heap_set (heap_set HW3.out 0 (.slice (some ⟨G,0,none⟩) m cG)) 1 (.int .i64 depth)) 2 (.int .i64 sort);have hbb:Below S w (((w3.setCell ⟨S,0,none⟩ (.slice (some ⟨G,0,none⟩) m cG)).setCell ⟨S,1,none⟩ (.int .i64 depth)).setCell ⟨S,2,none⟩ (.int .i64 sort)):=((HB3.out.setCell (show S≤S from ag _) _).setCell (show S≤S from ag _) _).setCell (show S≤S from ag _) _;have s0:=ac hw4 0;have s1:=ac hw4 1;have s2:=ac hw4 2
    have hgS:G≠S:=by
     rintro rfl;obtain ⟨x,hx⟩:∃x,ts[0]? =some x:=⟨_,aq hts⟩
     have h0:=HN3.out 0 x hx 0 (by omega);rw[show (0*5+0)=0 by omega,d0] at h0
     simp[Nd.cells] at h0
    have hblk:∀b,b≠S→(((w3.setCell ⟨S,0,none⟩ (.slice (some ⟨G,0,none⟩) m cG)).setCell ⟨S,1,none⟩ (.int .i64 depth)).setCell ⟨S,2,none⟩ (.int .i64 sort)).heap[b]? =w3.heap[b]? :=fun b hb=>
     (aB _ _ _ _ hb).trans ((aB _ _ _ _ hb).trans (aB _ _ _ _ hb))
    have hsz:(((w3.setCell ⟨S,0,none⟩ (.slice (some ⟨G,0,none⟩) m cG)).setCell ⟨S,1,none⟩ (.int .i64 depth)).setCell ⟨S,2,none⟩ (.int .i64 sort)).heap.size=w3.heap.size:=by simp
    generalize ((w3.setCell ⟨S,0,none⟩ (.slice (some ⟨G,0,none⟩) m cG)).setCell ⟨S,1,none⟩ (.int .i64 depth)).setCell ⟨S,2,none⟩ (.int .i64 sort)=w5' at *;refine bodyPost_ret (v:=.tuple #[.agg #[.slice (some ⟨G,0,none⟩) m cG,.int .i64 depth,.int .i64 sort],.bool true]) ?_ rfl ⟨_,rfl,⟨G,cG,by rw[HNL.out],fun i x hx j hj=>(World.cell?_of_block (hblk G hgS)).trans (HN3.out i x hx j hj),by rw[hsz];exact hlG,hts⟩,by rw[HS.out];exact hbb⟩;rw[results_cell_tmp rfl]
    go_simp
theorem uH (e0:Int) (R V F gi ge:Nat) (ab:Option Addr) (N ci ce nb cb i h:Nat) (p er:Int) (its:List It) (E:List Nat) (ops:List Nat) (kvs:List (ByteArray×Value)) (op least most hk hp:Int) (L:List (List Nd×Int×Int)) (w:World)
    (hR:w.heap[R]? =some (rdC (some ⟨gi,0,none⟩) N ci (some ⟨ge,0,none⟩) N ce V F ab nb cb false p er)) (hN:N≤65536) (hits:its.length=N) (hit:ItemsAt w gi its) (hgi:gi<w.heap.size) (hEl:E.length=N) (hE:∀t (h:t<E.length),w.cell? ⟨ge,t,none⟩=some (.int .i64 E[t])) (hge:ge<w.heap.size) (hup:∀j,j<N→j<E.getD j 0) (hbd:∀j,j<N→E.getD j 0≤N)
    (hi:i<N) (htr:trail E (i+1) (E.getD i 0)=h::ops) (hh:its[h]? =some ⟨1,⟨#[42]⟩,hk,hp⟩) (hmf:MapS w F kvs) (hmiss:dl ⟨#[42]⟩ kvs 0=none)
    (hop:∀W,Calls Tryz.prog 173 #[.string ⟨#[42]⟩] W fun e w'=>e=.returned (.tuple #[.int .i64 op,.int .i64 least,.int .i64 most])∧w'=W) (h0:¬op=0) (h5:¬op=5) (h16:¬op=16) (h17:¬op=17) (hpos:0<ops.length) (hlo:least≤ops.length) (hhi:(ops.length:Int)≤most)
    (hL:L.length=ops.length) (hrd:∀k (hk:k<ops.length) (hl:k<L.length) W,Below w.heap.size w W→Calls Tryz.prog 102 #[.pointer (some ⟨R,0,none⟩),.int .i64 (ops[k]:Nat)] W (cC L[k].1 L[k].2.1 L[k].2.2 W))
    (hfin:∀(W:World) (b c:Nat),Below w.heap.size w W→KSz W (some ⟨b,0,none⟩) b L→Calls Tryz.prog 175 #[.pointer (some ⟨R,0,none⟩),.int .i64 i,.string ⟨#[42]⟩,.slice (some ⟨b,0,none⟩) ops.length c] W (fE R (rdC (some ⟨gi,0,none⟩) N ci (some ⟨ge,0,none⟩) N ce V F ab nb cb false) i e0 W)):
    Calls Tryz.prog 141 #[.pointer (some ⟨R,0,none⟩),.int .i64 i] w (fE R (rdC (some ⟨gi,0,none⟩) N ci (some ⟨ge,0,none⟩) N ce V F ab nb cb false) i e0 w):=by
 obtain ⟨i3,hi3,hx0,hx1,hx2⟩:=info_parts nQ;have hRl:=ay hR;have hal:=aD w (.cells #[.slice none 0 0,.int .i64 0,.int .i64 0] 134);have hw0:=heap_alloc_new w (.cells #[.slice none 0 0,.int .i64 0,.int .i64 0] 134);have hz:(w.alloc (.cells #[.slice none 0 0,.int .i64 0,.int .i64 0] 134)).heap.size=w.heap.size+1:=by simp
 have HRD:=hid hrd;have HFIN:=hid hfin;have HOP:=hid hop;have HL:=hid hL;have HMISS:=hid hmiss;have hnb:ops.length+1≤65536:=by have:=eI E (i+1) (E.getD i 0);rw[htr] at this;have:=hbd i hi;simp only[au] at *;omega
 have HRLT:Hid (R<w.heap.size):=hid hRl;have HHI:Hid (h<N):=hid (by have:=(List.getElem?_eq_some_iff.1 hh).1;omega);have hgE:∀W,Below w.heap.size w W→∀t (h:t<E.length),W.cell? ⟨ge,t,none⟩=some (.int .i64 E[t]):=fun W hW t ht=>(hW.cell (p:=⟨ge,t,none⟩) hge).trans (hE t ht)
 have hgEi:∀W,Below w.heap.size w W→W.cell? ⟨ge,i,none⟩=some (.int .i64 (E.getD i 0:Nat)):=fun W hW=>by
  rw[hgE W hW i (by omega),aw,aq (by omega)];rfl
 have hgR:∀W,Below w.heap.size w W→W.heap[R]? =some (.cells #[.slice (some ⟨gi,0,none⟩) N ci,.slice (some ⟨ge,0,none⟩) N ce,.map (some V),.map (some F),.slice ab nb cb,.bool false,.int .i64 p,.int .i64 er] 130 (0,0)):=fun W hW=>(hW.block R hRl).trans hR
 have hgH:∀W,Below w.heap.size w W→W.cell? ⟨gi,h*4,none⟩=some (.int .i64 1)∧W.cell? ⟨gi,h*4+1,none⟩=some (.string ⟨#[42]⟩):=fun W hW=>by
  have a0:=(hit.below hW hgi) h _ hh 0 (by omega);have a1:=(hit.below hW hgi) h _ hh 1 (by omega);exact ⟨a0,a1⟩
 have hgF:∀W,Below w.heap.size w W→MapS W F kvs:=fun W hW=>hmf.but (hW.block F hmf.lt)
 have hch:∀W,Below w.heap.size w W→Calls Tryz.prog 98 #[.slice (some ⟨ge,0,none⟩) N ce,.int .i64 ((i:Int)+1),.int .i64 (E.getD i 0:Nat)] W fun e w'=>∃v,e=.returned v∧w'.ownsRow W.heap.size 3 1 v (trail E (i+1) (E.getD i 0)).length (eU (trail E (i+1) (E.getD i 0)))∧Below W.heap.size W w':=fun W hW=>by
  have:=d7 (some ⟨ge,0,none⟩) ge ce E (i+1) (E.getD i 0) W (by omega) (fun _=>rfl) (ap hge hW.size) (hgE W hW) (by rw[hEl];exact hbd i hi) (fun j hj=>hup j (by have:=hbd i hi;omega)) (fun j hj=>by rw[hEl] at hj ⊢;exact hbd j hj) (by omega);rwa [hEl,show ((i+1:Nat):Int)=(i:Int)+1 from rfl] at this
 rw[htr] at hch;have HCH:=hid hch;have HgEi:=hid hgEi;have HgR:=hid hgR;have HgH:=hid hgH;have HgF:=hid hgF;have hEi0:E.getD i 0≤65536:=by have:=hbd i hi;omega
 have HB0:=hid hal;have HX0:=hid hw0;have HZ:=hid hz;have HSP:Hid (0<w.heap.size):=hid (by omega);clear hrd hfin hop hL hmiss hgE hgEi hgR hgH hgF hch hR hit hE hup hbd htr hh hmf hal hw0 hz hits hEl hRl;generalize E.getD i 0=up1 at *;obtain ⟨n,hn⟩:∃n,ops.length=n:=⟨_,rfl⟩
 rw[hn] at hlo hhi hpos hnb;have HN:=hid hn;have g0:(op==0)=false:=by simp[h0]
 have g5:(op==5)=false:=by simp[h5]
 have g16:(op==16)=false:=by simp[h16]
 have g17:(op==17)=false:=by simp[h17]
 have gl:¬(n:Int)<least:=by omega
 have gm:¬most<(n:Int):=by omega
 clear hn h0 h5 h16 h17
 go_enter Tryz.func141,Tryz.ntmps141
 have hwr:IntKind.i64.wrap ((i:Int)+1)=(i:Int)+1:=by rw[IntKind.wrap_i64];omega
 go_upto_region 1 with fail
 generalize w.alloc (.cells #[.slice none 0 0,.int .i64 0,.int .i64 0] 134)=w1 at *;refine aV [[],[0],[0,1],[0,1,2],[],[4],[],[6],[6,7],[6,7,8],[],[6,7,8,9,10],[6,7,8,9,10,11],[0,1,2,3,4,5,6,7,8,9,10,11,12],[0,1,2,3,4,5,6,7,8,9,10,11,12,13]] (fun W=>Below w1.heap.size w1 W) (fun _=>True) ?_
 iterate 13
  apply aR
  · intro x;go_simp;done
  · intro x W R hW hF hR;have hWw:=HB0.out.trans (hW.mono HB0.out.size);have c0:=ac (HgR.out W hWw) 1;have c1:=HgEi.out W hWw;clear hF;unfold aN
    go_simp
    simp only[aF];exact hR _ (ah _ _)
  simp only[Act.put,aa,aj,am]
 refine cY (fun v W=>∃g c,v=.slice (some ⟨g,0,none⟩) (n+1) c∧w1.heap.size≤g∧g<W.heap.size∧n+1≤c∧∀t (h':t<(h::ops).length),W.cell? ⟨g,t,none⟩=some (.int .i64 ((h::ops)[t]:Nat))) (fun _ _ _ h hb=>let ⟨g,c,h1,h2,h3,h5,h4⟩:=h;⟨g,c,h1,h2,ap h3 hb.size,h5,fun t ht=>(hb.cell (p:=⟨g,t,none⟩) h3).trans (h4 t ht)⟩) ?_ ?_ ?_
 · intro x;go_simp;done
 · intro x W R hW hF hR;have hWw:=HB0.out.trans (hW.mono HB0.out.size);clear hF;unfold aN
   go_simp
   simp only[aF];refine (HCH.out W hWw).mono ?_;rintro e w' ⟨v,rfl,hown,hb⟩;obtain ⟨_,q1 | ⟨g,cap,cur,hv,q2,q3,q4,q5⟩⟩:=id hown
   · exact absurd q1.2 (by simp)
   · have hrow:=gC hown (by have:=hb.size;have:=hW.size;have:=HZ.out;omega);obtain ⟨ao,g',cap',hv',hao,hlt',hcl⟩:=hrow;obtain rfl:=hao (by simp);rw[hv] at hv';have e1:g=g':=by injection hv' with e;injection e with e;injection e
     subst e1;exact ⟨v,rfl,hR _ _ ⟨g,cap,by rw[hv,au,HN.out],aC hW.size q2,hlt',by rw[au,HN.out] at q4;exact q4,hcl⟩ hb⟩
 simp only[Act.put,aa,aj,am,au,aH,Nat.zero_add,Nat.reduceAdd];refine ez (fun x=>x 14=x 13) (fun x x' hx h=>by rw[←hx 14 (.inl rfl),←hx 13 (.inr (List.contains_iff_mem.1 rfl))];exact h) ?_ ?_ ?_
 · intro x;go_simp;done
 · intro x W R hW hF hR;clear hF hW;unfold aN
   go_simp
   simp only[aF];refine hR _ _ ?_ (ah _ _);show bM x 14 _ 14=bM x 14 _ 13;rw[bp,bC (i:=14) (j:=13) _ _ (by decide)]
 simp only[Act.put,aa,aj,am,au,aH,Nat.zero_add,Nat.reduceAdd];refine cz (by kernel_rfl) (by kernel_rfl) (by kernel_rfl) (fun _ _ h hb=>h.trans (hb.mono h.size)) (fun _ _ _ _=>trivial) (fun _ _=>trivial) (aQ (ah _ _) 1) ?_;intro x W hE hW hF hD;clear hD;have hx14:=hF.1.1;have hm:=hF.2.1.2 rfl;replace hW:=hW rfl;simp only[AK.free,AK.fact] at hx14 hm;obtain ⟨gc,cc,hx13,hgc1,hgc2,hcc,hrow⟩:=hm;rw[hx13] at hx14;have HB5:=hid (HB0.out.trans (hW.mono HB0.out.size));have HX5:=hid ((hW.block _ (ay HX0.out)).trans HX0.out)
 have HROW:Hid (∀W',Below W.heap.size W W'→W'.cell? ⟨gc,0,none⟩=some (.int .i64 (h:Nat))∧∀k (hk:k<ops.length),W'.cell? ⟨gc,1+k,none⟩=some (.int .i64 (ops[k]:Nat))):=hid (fun W' hW'=>by
  refine ⟨(hW'.cell (p:=⟨gc,0,none⟩) hgc2).trans (hrow 0 (by simp)),fun k hk=>?_⟩;rw[Nat.add_comm];have:=(hW'.cell (p:=⟨gc,k+1,none⟩) hgc2).trans (hrow (k+1) (by simp;omega))
  simpa using this)
 have HS5:Hid (w.heap.size<W.heap.size):=hid (ay HX5.out);clear hF hW hx13 hrow HB0 HX0 HCH HZ hgc1;simp only[hx14]
 go_upto_region 2 with fail
 clear hx14;generalize hw5:W=w5 at *;clear hw5;have hn0:((n:Int)+1==0)=false:=by simp;omega
 have hn1:(0:Int)<(n:Int)+1:=by omega
 have hle1:(1:Int)≤(n:Int)+1:=by omega
 have hcc1:¬cc=1:=by omega
 have hh0:=HHI.out;refine aV [[],[0],[0,1],[0,1,2],[0,1,2,3],[0,1,2,3,4],[0,1,2,3,4,5],[0,1,2,3,4,5,6],[0,1,2,3],[0,1,2,3,8],[0,1,2,3,8,9],[0,1,2,3,4,5,6,7,8,9,10],[0,1,2,3,4,5,6,7,8,9,10,11],[0,1,2,3,4,5,6,7,8,9,10,11,12],[0,1,2,3,4,5,6,7,8,9,10,11,12,13],[0,1,2,3,4,5,6,7,8,9,10,11,12,13,14]] (fun W=>Below w5.heap.size w5 W) (fun _=>True) ?_
 iterate 16
  apply aR
  · intro x;go_simp;done
  · intro x W R hW hF hR;have hWw:=HB5.out.trans (hW.mono HB5.out.size);have c0:=ac (HgR.out W hWw) 0;obtain ⟨c1,c2⟩:=HgH.out W hWw;have c3:=(HROW.out W hW).1;clear hF;unfold aN
    go_simp
    simp only[aF];exact hR _ (ah _ _)
  simp only[Act.put,aa,aj,am]
 refine cz (by kernel_rfl) (by kernel_rfl) (by kernel_rfl) (fun _ _ h hb=>h.trans (hb.mono h.size)) (fun _ _ _ _=>trivial) (fun _ _=>trivial) (aQ (ah _ _) 1) ?_;intro x W hE hW hF hD;clear hD;replace hW:=hW rfl;have HB6:=hid hW;clear hF hW;generalize hw6:W=w6 at *;clear hw6
 go_upto_region 4 with fail
 refine aV [[],[0],[0,1],[0,1,2],[],[4],[4,5],[0,1,2,3,4,5,6],[0,1,2,3,4,5,6,7],[0,1,2,3,4,5,6,7,8],[],[10],[0,1,2,3,4,5,6,7,8,9],[0,1,2,3,4,5,6,7,8,9,10,11,12]] (fun W=>Below w5.heap.size w5 W) (fun _=>True) ?_
 iterate 11
  apply aR
  · intro x;go_simp;done
  · intro x W R hW hF hR;have hWw:=HB5.out.trans (hW.mono HB5.out.size);have c0:=ac (HgR.out W hWw) 0;obtain ⟨c1,c2⟩:=HgH.out W hWw;have c3:=(HROW.out W hW).1;clear hF;unfold aN
    go_simp
    simp only[aF];exact hR _ (ah _ _)
  simp only[Act.put,aa,aj,am]
 refine aR (v:=.slice (some ⟨gc,1,none⟩) n (cc-1)) ?_ ?_ ?_
 · intro x;go_simp;done
 · intro x W R hW hF hR;clear hF;unfold aN
   go_simp
   simp only[aF];exact hR _ (ah _ _)
 simp only[Act.put,aa,aj,am]
 iterate 2
  apply aR
  · intro x;go_simp;done
  · intro x W R hW hF hR;have hWw:=HB5.out.trans (hW.mono HB5.out.size);have c0:=ac (HgR.out W hWw) 0;obtain ⟨c1,c2⟩:=HgH.out W hWw;have c3:=(HROW.out W hW).1;clear hF;unfold aN
    go_simp
    simp only[aF];exact hR _ (ah _ _)
  simp only[Act.put,aa,aj,am]
 refine cz (by kernel_rfl) (by kernel_rfl) (by kernel_rfl) (fun _ _ h hb=>h.trans (hb.mono h.size)) (fun _ _ _ _=>trivial) (fun _ _=>trivial) (HB6.out.trans (aQ (ah _ _) 1)) ?_;intro x W hE hW hF hD;clear hD;replace hW:=hW rfl;have HB6:=hid hW;clear hF hW;generalize hw6:W=w6 at *;clear hw6;have HB56:=hid (HB5.out.trans (HB6.out.mono HB5.out.size));have HS6:Hid (w.heap.size<w6.heap.size):=hid (ap HS5.out HB6.out.size);have HX6:=hid ((HB6.out.block _ HS5.out).trans HX5.out);have fr:=ac (HgR.out w6 HB56.out) 3;have hRl6:=ay (HgR.out w6 HB56.out);have hge6:=ap hge HB56.out.size
 go_wp2_with (first | (go_at_call 173;refine (HOP.out _).mono ?_;rintro e w' ⟨rfl,hw'⟩;obtain rfl:=hw'.symm) | (at_lookup;go_loud (refine bO rfl 9 117 127 _ _ rfl Tryz.underlying9 Tryz.underlying127 F _ rfl (HgF.out w6 HB56.out) ⟨#[42]⟩ rfl _ HMISS.out (qu _) ?_)) | (at_make;go_loud (refine wpList_make_full _ rfl (.tmp 135) (.tmp 135) 193 rfl w6.heap.size 134 i3 _ 3 (by kernel_rfl) hi3 hx0 hx1 .i64 .i64 n n n rfl rfl rfl rfl (by rw[hx2];omega) (by unfold maxLen;omega) (by simp) ?_)))
 intro w8 hown hgr;have hal:=aD w6 (.cells #[.string ⟨#[]⟩,.slice none 0 0,.int .i64 0] 117);obtain ⟨mz1,mz2⟩:=mz n;have HLK:Hid (LK w6.heap.size w6 (w6.heap.size+1) n L 0 w8):=hid ⟨hal.trans ((ah _ _).grown hgr hal.size (fun k h=>by cases h)),aC hal.size hgr.size,_,mz1,fun j hj=>⟨_,_,_,mz2 j hj⟩,fun j t hj=>by omega,hown⟩;clear hown hgr hal mz1 mz2 fr hRl6 hge6;generalize w6.heap.size+1=B at *
 go_wp2_with fail
 go_loopw [139] (fun v wr=>∃k:Nat,k≤n∧v=.int .i64 k∧LK w6.heap.size w6 B n L k wr) (fun v _=>n-(intOf v).toNat)
 case atStart=>exact ⟨0,aE _,rfl,HLK.out⟩
 case round=>
  clear HLK;obtain ⟨k,hk,rfl,hlk⟩:=hrel;have HLK:=hid hlk;clear hlk;have hk0:(0:Int)≤(k:Int):=by omega
  have HB7:=hid (HB56.out.trans (HLK.out.bel.mono HB56.out.size));have HB57:=hid (HB6.out.trans (HLK.out.bel.mono HB6.out.size))
  by_cases hkn:k<n
  · have hkn':(k:Int)<(n:Int):=by omega
    have hko:k<ops.length:=by rw[HN.out];exact hkn
    have hkl:k<L.length:=by rw[HL.out];exact hko
    have co:=(HROW.out wr HB57.out).2 k hko;have hgcl:gc<wr.heap.size:=ap hgc2 HB57.out.size;have hrd:=HRD.out k hko hkl wr HB7.out;have HLKk:Hid (L[k]? =some L[k]):=hid (aq hkl);generalize ops[k]=ok at *;generalize L[k]=tk at *
    go_wp2_with fail
    refine hrd.mono ?_;rintro e w9 ⟨v,rfl,⟨g,c,rfl,hNd,hgl,hp⟩,hb9⟩;have HLK9:=hid (HLK.out.far hb9);have HND:=hid hNd;have hln:∃ln,tk.1.length=ln:=⟨_,rfl⟩
    obtain ⟨ln,hln⟩:=hln;have HLN:=hid hln;rw[hln];clear hrd hb9 hNd co hgcl HLK HB7 HB57 hln
    go_upto_region 24 with fail
    have hal:=aD w9 (.cells #[.slice (some ⟨g,0,none⟩) ln c,.int .i64 tk.2.1,.int .i64 tk.2.2] 134);have hbx:=heap_alloc_new w9 (.cells #[.slice (some ⟨g,0,none⟩) ln c,.int .i64 tk.2.1,.int .i64 tk.2.2] 134);have HLKa:=hid (HLK9.out.far hal);have HNa:=hid (HND.out.below hal hgl);have hgla:g<(w9.alloc (.cells #[.slice (some ⟨g,0,none⟩) ln c,.int .i64 tk.2.1,.int .i64 tk.2.2] 134)).heap.size:=ap hgl hal.size;clear hal HLK9 HND;generalize w9.alloc (.cells #[.slice (some ⟨g,0,none⟩) ln c,.int .i64 tk.2.1,.int .i64 tk.2.2] 134)=wa at *;generalize w9.heap.size=D at *;have b0:=ac hbx 0;have b1:=ac hbx 1;have b2:=ac hbx 2;obtain ⟨⟨u0,hu0⟩,fz0⟩:=HLKa.out.B.2.2 (k*3) (by omega);obtain ⟨⟨u1,hu1⟩,fz1⟩:=HLKa.out.B.2.2 (k*3+1) (by omega);obtain ⟨⟨u2,hu2⟩,fz2⟩:=HLKa.out.B.2.2 (k*3+2) (by omega);have HPUT:=hid (HLKa.out.put (c:=c) hkn HLKk.out HNa.out hgla hp);rw[HLN.out] at HPUT;clear hbx HLKa HNa hgl hgla
    go_wp2
    go_roundw
    case rel=>exact ⟨k+1,by omega,by go_num,HPUT.out⟩
    case measure=>simp[intOf];omega
  · obtain rfl:k=n:=by omega
    have hksz:=HLK.out.ksz (by rw[HL.out,HN.out]);have hfin:=HFIN.out wr B k HB7.out hksz;rw[HN.out] at hfin;have HX7:=hid ((HLK.out.bel.block _ HS6.out).trans HX6.out);clear hksz
    go_wp2_with fail
    refine hfin.mono ?_;rintro e w4 ⟨rfl,hr4,hg4⟩;have hRS:R≠w.heap.size:=by have:=HRLT.out;omega
    have hne:some w.heap.size≠some R:=fun e=>hRS (aG e).symm
    have hx:=(hg4.block w.heap.size (ay HX7.out) hne).trans HX7.out;have hgg:=ku HB7.out hg4;have HR4:=hid hr4;have HG4:=hid hgg;have HX4:=hid hx;generalize hSS:w.heap.size=S at *;have HS:=hid hSS;have x0:=ac hx 0;have x1:=ac hx 1;have x2:=ac hx 2;have f0:=aM hx 0;have f1:=aM hx 1;have f2:=aM hx 2;clear hr4 hg4 hgg hx hfin hSS hne
    go_wp2
    (try simp only[Exit.inBlock,Exit.then])
    have hw4:=heap_set (heap_set (heap_set HX4.out 0 (.slice none 0 0)) 1 (.int .i64 0)) 2 (.int .i64 0);have hb4:Below S w4 (((w4.setCell ⟨S,0,none⟩ (.slice none 0 0)).setCell ⟨S,1,none⟩ (.int .i64 0)).setCell ⟨S,2,none⟩ (.int .i64 0)):=(((ah S w4).setCell (show S≤S from ag _) _).setCell (show S≤S from ag _) _).setCell (show S≤S from ag _) _;have s0:=ac hw4 0;have s1:=ac hw4 1;have s2:=ac hw4 2;generalize ((w4.setCell ⟨S,0,none⟩ (.slice none 0 0)).setCell ⟨S,1,none⟩ (.int .i64 0)).setCell ⟨S,2,none⟩ (.int .i64 0)=w5' at *;refine bodyPost_ret (v:=.tuple #[.agg #[.slice none 0 0,.int .i64 0,.int .i64 0],.bool false]) ?_ rfl ⟨rfl,(hb4.block R HRLT.out).trans HR4.out,fT HG4.out hb4 (by rw[HS.out];exact ag _)⟩;rw[results_cell_tmp rfl]
    go_simp
end
end Go.Proofs.YtapdbeaoakcjeaaGreatDoor.Se

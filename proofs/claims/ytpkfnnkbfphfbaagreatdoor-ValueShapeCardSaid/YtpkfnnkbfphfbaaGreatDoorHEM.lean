import Derived.Test.YtpkfnnkbfphfbaaGreatDoorHEG
set_option maxRecDepth 100000
set_option maxHeartbeats 40000000
open Go.Lib (hid)
namespace Go.Proofs.YtpkfnnkbfphfbaaGreatDoor.Se
open Go.RowKit Nmx Go.Proofs.Tryz
theorem EV.drew {E g c:Nat} {ts:List Nd} {p:Int} {m1 m2:Value} {W:World} (h:EV E g c ts p m1 m2 W):EV E g c ts p m1 m2 W.drew:=⟨h.ev,h.nd,h.gl,h.ne⟩
structure NJ (E g c:Nat) (ts:List Nd) (p:Int) (m1 m2:Value) (R:Nat) (nd:Array Value) (w:World) (p10 p11:Bool) (v10:Value) (W:World):Prop where
 ev:EV E g c ts p m1 m2 W
 rb:W.heap[R]? =some (.cells (cL 0 0).toArray 95 (0,0))
 bel:Below R w W
 b10:p10=true→∃N,v10=.pointer (some ⟨N,0,none⟩)∧R<N∧if p11=true then W.heap[N]? =some (.cells nd 57 (0,0)) else W.heap[N]? =some (.cells #[.int .i64 0,.int .i64 0,.string ⟨#[]⟩,.string ⟨#[]⟩,.int .i64 0] 57 (0,0))
theorem NJ.far {E g c:Nat} {ts:List Nd} {p:Int} {m1 m2:Value} {R:Nat} {nd:Array Value} {w:World} {p10 p11:Bool} {v10:Value} {W W':World} (h:NJ E g c ts p m1 m2 R nd w p10 p11 v10 W) (hb:Below W.heap.size W W'):NJ E g c ts p m1 m2 R nd w p10 p11 v10 W':=by
 refine ⟨h.ev.far hb,(hb.block _ (ar h.rb)).trans h.rb,h.bel.trans (hb.mono (aL (ar h.rb))),fun e=>?_⟩;obtain ⟨N,h1,h2,h3⟩:=h.b10 e;refine ⟨N,h1,h2,?_⟩
 split at h3
 · rw[aF (by assumption)];exact (hb.block _ (ar h3)).trans h3
 · rw[aB (by assumption)];exact (hb.block _ (ar h3)).trans h3
theorem qj:(prog.info? 95).map (fun i=>(i.zero,i.size,i.bytes))=some (some (cC 0 0),13,176):=by kernel_rfl
theorem sc (W:World):(Instr.makeSlice 134 (.int .i64 0) (.int .i64 0)).run prog W=.ok (.slice (some ⟨W.heap.size,0,none⟩) 0 0) (W.alloc (.cells #[] 95)):=by
 obtain ⟨i0,hi,hz0,hz1,hz2⟩:=info_parts qj;have hr:=run_make (P:=prog) W 134 95 i0 _ underlying134 hi hz0 .i64 .i64 0 0 (by omega) (by omega) (by rw[hz2];omega) (by omega);have e:madeCells (cC 0 0).cells (0*13)=#[]:=by kernel_rfl
 rw[hz1] at hr;simp only[Int.toNat_zero] at hr;rw[e] at hr;exact hr
theorem se (W:World):(Instr.makeSlice 134 (.int .i64 1) (.int .i64 1)).run prog W=.ok (.slice (some ⟨W.heap.size,0,none⟩) 1 1) (W.alloc (.cells (cL 0 0).toArray 95)):=by
 obtain ⟨i0,hi,hz0,hz1,hz2⟩:=info_parts qj;have hr:=run_make (P:=prog) W 134 95 i0 _ underlying134 hi hz0 .i64 .i64 1 1 (by omega) (by omega) (by rw[hz2];omega) (by omega);have e:madeCells (cC 0 0).cells (1*13)=(cL 0 0).toArray:=by kernel_rfl
 rw[hz1] at hr;simp only[Int.toNat_one] at hr;rw[e] at hr;exact hr
theorem sf {w W:World} {C:Nat} (h:w.grownBy W (some C)) {q:Nat} (hq:w.heap.size≤q) (j:Nat) (x:Value):w.grownBy (W.setCell ⟨q,j,none⟩ x) (some C):=
 ⟨h.os,h.tape,h.output,by simpa [World.setCell] using h.size,fun k hk hne=>(aG _ _ _ _ (by show k≠q;omega)).trans (h.block k hk hne)⟩
theorem ik {w W:World} {C:Nat} {q:Nat} (hq:w.heap.size≤q) (vs:List Value) (o:Nat) (h:w.grownBy W (some C)):w.grownBy (W.setCells q o vs) (some C):=by
 induction vs generalizing o W with
 | nil=>exact h
 | cons v r ih=>exact ih (o+1) (sf h hq o v)
theorem iX (cs:Array Value) (L:List Value) (h:L.length=cs.size):lj cs 0 L=L.toArray:=by
 have:=dJ L cs 0 (by omega);rw[List.take_zero,List.nil_append,Nat.zero_add,List.drop_of_length_le (by rw[Array.length_toList];omega),List.append_nil] at this;exact Array.ext' (by rw[this])
structure NV (E g c:Nat) (ts:List Nd) (p:Int) (m1 m2:Value) (R N:Nat) (nd:Array Value) (z:Int) (w:World) (p6:Bool) (W:World):Prop where
 ev:EV E g c ts p m1 m2 W
 nb:W.heap[N]? =some (.cells nd 57 (0,0))
 gr:w.grownBy W (some E)
 rb:W.heap[R]? =some (.cells (cL (if p6=true then 2 else 0) (if p6=true then z else 0)).toArray 95 (0,0))
theorem NV.far {E g c:Nat} {ts:List Nd} {p:Int} {m1 m2:Value} {R N:Nat} {nd:Array Value} {z:Int} {w:World} {p6:Bool} {W W':World} (h:NV E g c ts p m1 m2 R N nd z w p6 W) (hb:Below W.heap.size W W'):NV E g c ts p m1 m2 R N nd z w p6 W':=
 ⟨h.ev.far hb,(hb.block _ (ar h.nb)).trans h.nb,cK h.gr hb,(hb.block _ (ar h.rb)).trans h.rb⟩
theorem eG {w:World} {g i:Nat} {ts:List Nd} {op so ki:Int} {nm nu:ByteArray} (hi:ts[i]? =some ⟨op,so,nm,nu,ki⟩) (h:NodesAt w g ts):w.cell? ⟨g,i*5,none⟩=some (.int .i64 op)∧w.cell? ⟨g,i*5+1,none⟩=some (.int .i64 so)∧w.cell? ⟨g,i*5+2,none⟩=some (.string nm)∧w.cell? ⟨g,i*5+3,none⟩=some (.string nu)∧w.cell? ⟨g,i*5+4,none⟩=some (.int .i64 ki):=
 ⟨h i _ hi 0 (by omega),h i _ hi 1 (by omega),h i _ hi 2 (by omega),h i _ hi 3 (by omega),h i _ hi 4 (by omega)⟩
theorem vk {E g c:Nat} {z:Int} {m1 m2:Value} {ts:List Nd} {i:Nat} (w:World) (hEn:∀W,w.grownBy W (some E)→Env W) (hz:aV z) (hi:ts[i]? =some ⟨3,2,⟨#[]⟩,TI z,0⟩) (hil:ts.length≤1000) (h:EV E g c ts i m1 m2 w):
    Calls prog 60 #[.pointer (some ⟨E,0,none⟩)] w fun e w'=>e=.returned (cC 2 z)∧EV E g c ts ((i:Int)+1) m1 m2 w'∧w.grownBy w' (some E):=by
 have hlt:=(List.getElem?_eq_some_iff.1 hi).1;have hA:=aO w (.cells (cL 0 0).toArray 95);have HEV:=hid (h.far hA);have HRB:=hid (aq w (.cells (cL 0 0).toArray 95));have HBL:=hid hA;have HER:Hid (E<w.heap.size):=hid (ar h.ev);have HGR:Hid (g<w.heap.size):=hid h.gl;have HTN:=hid fun (W:World) (hW:NodesAt W g ts)=>eG hi hW
 have HEN:=hid hEn;obtain ⟨tz,htz⟩:∃t,TI z=t:=⟨_,rfl⟩
 rw[htz] at HTN;have HMU:=hid fun (W:World) (hW:Env W)=>Ab hz W hW
 rw[htz] at HMU;clear hA h hEn htz;obtain ⟨n,hn⟩:∃n,ts.length=n:=⟨_,rfl⟩
 rw[hn] at hlt hil;have hlt':(i:Int)<(n:Int):=by omega
 have hi0:(0:Int)≤(i:Int):=by omega
 unfold cL at HRB HEV HBL
 go_enter func60,ntmps60
 go_upto_region 1 with fail
 generalize hw1:World.alloc _ _=w1 at *;generalize hR:w.heap.size=rI at *;have HRW:=hid hR;refine cE [[],[0],[0,1],[0,1,2],[],[4],[4,5],[4,5,6],[0,1,2,3,4,5,6,7],[0,1,2,3,4,5,6,7,8],[],[0,1,2,3,4,5,6,7,8,9,10]] (fun x L W=>NJ E g c ts i m1 m2 rI #[.int .i64 3,.int .i64 2,.string ⟨#[]⟩,.string tz,.int .i64 0] w (L 10) (L 11) (x 10) W) ?_
 iterate 8
  apply bf
  · intro x;go_simp;done
  · intro x L W R hJ h1 h2 h3 hR;have z0:=aa hJ.ev.ev 0;have z1:=aa hJ.ev.ev 1;unfold aR
    go_simp
    simp only[aJ];exact hR _ hJ
  simp only[Act.put,ac,ag,ah]
 apply bf
 · intro x;go_simp;done
 · intro x L W R hJ h1 h2 h3 hR
   skip
   unfold aR
   go_simp
   simp only[aJ];exact hR _ hJ
 simp only[Act.put,ac,ag,ah];apply bf
 · intro x;go_simp;done
 · intro x L W R hJ h1 h2 h3 hR;obtain ⟨q0,q1,q2,q3,q4⟩:=HTN.out W hJ.ev.nd;unfold aR
   go_simp
   simp only[aJ];exact hR _ hJ
 simp only[Act.put,ac,ag,ah];apply bI
 · intro x;go_simp;done
 · intro x L W R hJ h1 h2 h3 hR;have hj:=hJ.far (aO W (.cells #[.int .i64 0,.int .i64 0,.string ⟨#[]⟩,.string ⟨#[]⟩,.int .i64 0] 57));have HJ:=hid hj;have HR0:=hid (ar hJ.rb);clear hJ hj;unfold aR
   go_simp
   simp only[aJ];have h11:L 11=false:=h3 11 (show (10:Nat)∈([0,1,2,3,4,5,6,7,8,9,10]:List Nat) by decide);exact hR _ _ ⟨HJ.out.ev,HJ.out.rb,HJ.out.bel,fun _=>⟨_,rfl,HR0.out,by show (if L 11=true then _ else _);rw[h11];exact aq W _⟩⟩
 simp only[Act.put,ac,ag,ah,aw,aN,Nat.zero_add,Nat.reduceAdd];apply bI
 · intro x;go_simp;done
 · intro x L W R hJ h1 h2 h3 hR;have h11:L 11=false:=h2;obtain ⟨N,q1,q2,q3⟩:=hJ.b10 (h1 10 (show (10:Nat)∈([0,1,2,3,4,5,6,7,8,9,10]:List Nat) by decide));rw[h11,aB Bool.false_ne_true] at q3;have f0:=aa q3 0;have g0:=aK q3 0;have f1:=aa q3 1;have g1:=aK q3 1;have f2:=aa q3 2;have g2:=aK q3 2;have f3:=aa q3 3;have g3:=aK q3 3;have f4:=aa q3 4;have g4:=aK q3 4;have HJ:=hid hJ;have HQ:=hid q3;clear hJ q3;rw[q1];unfold aR
   go_simp
   simp only[aJ];obtain ⟨s1,s2,s3⟩:=m9 HQ.out (.int .i64 3) (.int .i64 2) (.string ⟨#[]⟩) (.string tz) (.int .i64 0);exact hR _ _ ⟨HJ.out.ev.blocks (s2 E (by have:=HER.out;omega)) (s2 g (by have:=HGR.out;omega)),(s2 rI (by omega)).trans HJ.out.rb,s3 HJ.out.bel (by omega),fun _=>⟨N,q1,q2,s1⟩⟩
 simp only[Act.put];refine ia (by kernel_rfl) (by kernel_rfl) ⟨HEV.out.drew,HRB.out,HBL.out.drew,(fun e=>by cases e)⟩ ?_;intro x L W hJ hL;have l10:L 10=true:=hL 10 (show 10<12 by decide);have l11:L 11=true:=hL 11 (show 11<12 by decide);rw[l10,l11] at hJ;obtain ⟨N,q1,q2,q3⟩:=hJ.b10 rfl;rw[aF rfl] at q3;have hev:=hJ.ev;have hrb:=hJ.rb;have hbl:=hJ.bel;rw[q1];have HEV2:=hid hev;have HRB2:=hid hrb;have HBL2:=hid hbl;have HN2:=hid q3;have HNR:Hid (rI<N):=hid q2;have e1:=aa hev.ev 1;have e1z:=aK hev.ev 1;clear hJ hL l10 l11 hev hrb hbl q1 q3 HEV HRB HBL
 go_upto_region 3 with fail
 have hnE:∀b,b≠E→(W.setCell ⟨E,1,none⟩ (.int .i64 ((i:Int)+1))).heap[b]? =W.heap[b]? :=fun b hb=>aG _ _ _ _ hb
 have hev:EV E g c ts ((i:Int)+1) m1 m2 (W.setCell ⟨E,1,none⟩ (.int .i64 ((i:Int)+1))):=⟨heap_set HEV2.out.ev 1 _,(fun i' x hx j hj=>(World.cell?_of_block (a:=⟨g,i'*5+j,none⟩) (hnE g HEV2.out.ne.symm)).trans (HEV2.out.nd i' x hx j hj)),by simpa [World.setCell] using HEV2.out.gl,HEV2.out.ne⟩
 have hgr:w.grownBy (W.setCell ⟨E,1,none⟩ (.int .i64 ((i:Int)+1))) (some E):=dQ (dt (cx (by rw[HRW.out];exact HBL2.out))) 1 _;have hN:=(hnE N (by have:=HNR.out;have:=HER.out;omega)).trans HN2.out;have hR:=(hnE rI (by have:=HER.out;omega)).trans HRB2.out;clear e1 e1z HEV2 HRB2 HBL2 HN2 hnE;generalize hw3:W.setCell ⟨E,1,none⟩ (.int .i64 ((i:Int)+1))=w3 at *;have HEV3:=hid hev;have HGR3:=hid hgr;have HN3:=hid hN;have HR3:=hid hR;have n4:=aa hN 4;clear hev hgr hN hR hw3;have hmk:=sc w3;have hal:=aO w3 (.cells #[] 95);have n0:=(hal.cell (p:=⟨N,0,none⟩) (ar HN3.out)).trans (aa HN3.out 0);have e4:=(hal.cell (p:=⟨E,4,none⟩) (ar HEV3.out.ev)).trans (aa HEV3.out.ev 4);have HAL:=hid hal;clear hal
 go_wp2_with fail
 go_loop [28] (fun v=>v=.int .i64 0) (fun _=>0)
 case atStart=>exact rfl
 case round=>
  subst hrel
  go_wp2_with fail
  refine cE [[],[0],[],[2],[2,3],[0,1,2,3,4],[0,1,2,3,4,5]] (fun _ L W=>NV E g c ts ((i:Int)+1) m1 m2 rI N #[.int .i64 3,.int .i64 2,.string ⟨#[]⟩,.string tz,.int .i64 0] z w (L 6) W) ?_
  iterate 4
   apply bf
   · intro x;go_simp;done
   · intro x L W R hJ h1 h2 h3 hR;have f1:=aa hJ.nb 1;have f3:=aa hJ.nb 3;unfold aR
     go_simp
     simp only[aJ];exact hR _ hJ
   simp only[Act.put,ac,ag,ah]
  apply bf
  · intro x;go_simp;done
  · intro x L W R hJ h1 h2 h3 hR
    skip
    unfold aR
    go_simp
    simp only[aJ];refine (HMU.out W (HEN.out W hJ.gr)).mono ?_;rintro e w' ⟨rfl,hb⟩;exact ⟨_,rfl,hR _ (hJ.far hb)⟩
  simp only[Act.put,ac,ag,ah];apply bf
  · intro x;go_simp;done
  · intro x L W R hJ h1 h2 h3 hR;unfold rC;unfold aR
    go_simp
    simp only[aJ];exact hR _ hJ
  simp only[Act.put,ac,ag,ah];apply bI
  · intro x;go_simp;done
  · intro x L W R hJ h1 h2 h3 hR;have l6:L 6=false:=h2;have hrb:=hJ.rb;rw[l6] at hrb;unfold cL at hrb;have f0:=aa hrb 0;have g0:=aK hrb 0;have f1:=aa hrb 1;have g1:=aK hrb 1;have f2:=aa hrb 2;have g2:=aK hrb 2;have f3:=aa hrb 3;have g3:=aK hrb 3;have f4:=aa hrb 4;have g4:=aK hrb 4;have f5:=aa hrb 5;have g5:=aK hrb 5;have f6:=aa hrb 6;have g6:=aK hrb 6;have f7:=aa hrb 7;have g7:=aK hrb 7;have f8:=aa hrb 8;have g8:=aK hrb 8;have f9:=aa hrb 9;have g9:=aK hrb 9;have f10:=aa hrb 10;have g10:=aK hrb 10;have f11:=aa hrb 11;have g11:=aK hrb 11;have f12:=aa hrb 12;have g12:=aK hrb 12;have HJ:=hid hJ;have HRB2:=hid hrb;clear hJ hrb;unfold aR
    go_simp
    simp only[aJ];have hfin:=dx (cL 2 z) 0 HRB2.out;rw[iX] at hfin
    rotate_left
    · rfl
    refine hR _ (W.setCells rI 0 (cL 2 z)) ?_;refine ⟨HJ.out.ev.blocks (cq (by have:=HER.out;omega) _ _ _) (cq (by have:=HGR.out;omega) _ _ _),(cq (by have:=HNR.out;omega) _ _ _).trans HJ.out.nb,ik (by have:=HRW.out;omega) _ _ HJ.out.gr,?_⟩;exact hfin
  simp only[Act.put];refine ia (by kernel_rfl) (by kernel_rfl) ⟨((HEV3.out.far HAL.out).drew),(HAL.out.block _ (ar HN3.out)).trans HN3.out,gG (cK HGR3.out HAL.out),(HAL.out.block _ (ar HR3.out)).trans HR3.out⟩ ?_;intro x L W' hJ hL;have l6:L 6=true:=hL 6 (show 6<7 by decide);rw[l6] at hJ;have HJ:=hid hJ;clear hJ hL l6
  go_wp2
  exact jK (s:=2) (z:=z) rfl rfl rfl HJ.out.rb ⟨rfl,HJ.out.ev,HJ.out.gr⟩
theorem Below.sets {S q:Nat} {w W:World} (hq:S≤q) (vs:List Value) (o:Nat) (h:Below S w W):Below S w (W.setCells q o vs):=by
 induction vs generalizing o W with
 | nil=>exact h
 | cons v r ih=>exact ih (o+1) (h.setCell hq _)
structure QJ (K:Nat) (tb:ByteArray) (a b:Int) (w:World) (p13 p14 p15 p16:Bool) (v13 v14:Value) (W:World):Prop where
 nb:W.heap[w.heap.size]? =some (.cells #[.int .i64 16,.int .i64 0,.string ⟨#[]⟩,.string tb,.int .i64 1] 57 (0,0))
 rb:W.heap[w.heap.size+1]? =some (.cells (cL 0 0).toArray 95 (0,0))
 kb:W.heap[K]? =some (.cells (cL 2 a).toArray 95 (0,0))
 bel:Below w.heap.size w W
 b13:p13=true→∃B,v13=.pointer (some ⟨B,0,none⟩)∧w.heap.size+1<B∧if p15=true then W.heap[B]? =some (.cells #[.int .i64 (a / b),.bool false,.slice none 0 0] 73 (0,0)) else W.heap[B]? =some (.cells #[.int .i64 0,.bool false,.slice none 0 0] 73 (0,0))
 b14:p14=true→∃B,v14=.pointer (some ⟨B,0,none⟩)∧w.heap.size+1<B∧if p16=true then W.heap[B]? =some (.cells #[.int .i64 (a % b),.bool false,.slice none 0 0] 73 (0,0)) else W.heap[B]? =some (.cells #[.int .i64 0,.bool false,.slice none 0 0] 73 (0,0))
 ne:p13=true→p14=true→v13≠v14
theorem QJ.far {K:Nat} {tb:ByteArray} {a b:Int} {w:World} {p13 p14 p15 p16:Bool} {v13 v14:Value} {W W':World} (h:QJ K tb a b w p13 p14 p15 p16 v13 v14 W) (hb:Below W.heap.size W W'):QJ K tb a b w p13 p14 p15 p16 v13 v14 W':=by
 refine ⟨(hb.block _ (ar h.nb)).trans h.nb,(hb.block _ (ar h.rb)).trans h.rb,(hb.block _ (ar h.kb)).trans h.kb,h.bel.trans (hb.mono h.bel.size),fun e=>?_,fun e=>?_,h.ne⟩
 · obtain ⟨N,h1,h2,h3⟩:=h.b13 e;refine ⟨N,h1,h2,?_⟩
   split at h3
   · rw[aF (by assumption)];exact (hb.block _ (ar h3)).trans h3
   · rw[aB (by assumption)];exact (hb.block _ (ar h3)).trans h3
 · obtain ⟨N,h1,h2,h3⟩:=h.b14 e;refine ⟨N,h1,h2,?_⟩
   split at h3
   · rw[aF (by assumption)];exact (hb.block _ (ar h3)).trans h3
   · rw[aB (by assumption)];exact (hb.block _ (ar h3)).trans h3
theorem Aw {K c:Nat} {a b:Int} (w:World) (hEn:Env w) (ha:aV a) (hb0:aV b) (h0:b≠0) (hq:aV (a / b)) (hr:aV (a % b)) (hK:w.heap[K]? =some (.cells (cL 2 a).toArray 95 (0,0))):
    Calls prog 96 #[.agg #[.int .i64 16,.int .i64 0,.string ⟨#[]⟩,.string (TI b),.int .i64 1],.slice (some ⟨K,0,none⟩) 1 c] w fun e w'=>e=.returned (cC 2 (a / b))∧Below w.heap.size w w':=by
 have HMU:=hid fun (W:World) (hW:Below w.heap.size w W)=>Ab hb0 W (hEn.far hW)
 obtain ⟨tb,htb⟩:∃t,TI b=t:=⟨_,rfl⟩
 rw[htb] at HMU;rw[htb];have HNA:=hid (A8 ha);have HNB:=hid (A8 hb0);have HQR:=hid (yH ha hb0 h0 hq hr);have HFI:=hid (wC hq);have hA:=aO w (.cells #[.int .i64 16,.int .i64 0,.string ⟨#[]⟩,.string tb,.int .i64 1] 57);have hA2:=aO (w.alloc (.cells #[.int .i64 16,.int .i64 0,.string ⟨#[]⟩,.string tb,.int .i64 1] 57)) (.cells (cL 0 0).toArray 95);have b1:=(hA2.block _ (ar (aq w (.cells #[.int .i64 16,.int .i64 0,.string ⟨#[]⟩,.string tb,.int .i64 1] 57)))).trans (aq w (.cells #[.int .i64 16,.int .i64 0,.string ⟨#[]⟩,.string tb,.int .i64 1] 57));have b2:=aq (w.alloc (.cells #[.int .i64 16,.int .i64 0,.string ⟨#[]⟩,.string tb,.int .i64 1] 57)) (.cells (cL 0 0).toArray 95);rw[show (w.alloc (.cells #[.int .i64 16,.int .i64 0,.string ⟨#[]⟩,.string tb,.int .i64 1] 57)).heap.size=w.heap.size+1 by simp] at b2;have HB1:=hid (hA.trans (hA2.mono hA.size));have HNB1:=hid b1;have HRB1:=hid b2;have HKB1:=hid ((HB1.out.block _ (ar hK)).trans hK);have HKB:Hid (K<w.heap.size):=hid (ar hK);clear htb hA hA2 hK hEn;have n0:=aa b1 0;clear b1 b2;unfold cL at HB1 HNB1 HRB1 HKB1 n0
 go_enter func96,ntmps96
 go_upto_region 24 with fail
 generalize hw1:World.alloc _ _=w1 at *;clear n0 hw1;refine cE [[],[0],[0,1],[0,1,2],[0,1,2,3],[],[5],[0,1,2,3,4,5,6],[0,1,2,3,4,5,6,7],[0,1,2,3,4,5,6,7,8],[0,1,2,3,4,5,6,7,8,9],[0,1,2,3,4,5,6,7,8,9,10],[0,1,2,3,4,5,6,7,8,9,10],[],[],[0,1,2,3,4,5,6,7,8,9,10,11,13,14],[0,1,2,3,4,5,6,7,8,9,10,11,12,13,14,15]] (fun x L W=>QJ K tb a b w (L 13) (L 14) (L 15) (L 16) (x 13) (x 14) W) ?_
 iterate 3
  apply bf
  · intro x;go_simp;done
  · intro x L W R hJ h1 h2 h3 hR
    skip
    unfold aR
    go_simp
    simp only[aJ];exact hR _ hJ
  simp only[Act.put,ac,ag,ah]
 apply bf
 · intro x;go_simp;done
 · intro x L W R hJ h1 h2 h3 hR;have hk:=hJ.kb;unfold cL at hk;have k2:=aa hk 2;have k3:=aa hk 3;have k4:=aa hk 4;have k5:=aa hk 5;have k6:=aa hk 6;have k7:=aa hk 7;clear hk;unfold aR
   go_simp
   simp only[aJ];exact hR _ hJ
 simp only[Act.put,ac,ag,ah];apply bf
 · intro x;go_simp;done
 · intro x L W R hJ h1 h2 h3 hR
   skip
   unfold aR
   go_simp
   simp only[aJ];refine (HNA.out W).mono ?_;rintro e w' ⟨rfl,hb⟩;exact ⟨_,rfl,hR _ (hJ.far hb)⟩
 simp only[Act.put,ac,ag,ah];apply bf
 · intro x;go_simp;done
 · intro x L W R hJ h1 h2 h3 hR
   skip
   unfold aR
   go_simp
   simp only[aJ];exact hR _ hJ
 simp only[Act.put,ac,ag,ah];apply bf
 · intro x;go_simp;done
 · intro x L W R hJ h1 h2 h3 hR;have n3:=aa hJ.nb 3;unfold aR
   go_simp
   simp only[aJ];exact hR _ hJ
 simp only[Act.put,ac,ag,ah];apply bf
 · intro x;go_simp;done
 · intro x L W R hJ h1 h2 h3 hR
   skip
   unfold aR
   go_simp
   simp only[aJ];refine (HMU.out W hJ.bel).mono ?_;rintro e w' ⟨rfl,hb⟩;exact ⟨_,rfl,hR _ (hJ.far hb)⟩
 simp only[Act.put,ac,ag,ah];apply bf
 · intro x;go_simp;done
 · intro x L W R hJ h1 h2 h3 hR
   skip
   unfold aR
   go_simp
   simp only[aJ];refine (HNB.out W).mono ?_;rintro e w' ⟨rfl,hb⟩;exact ⟨_,rfl,hR _ (hJ.far hb)⟩
 simp only[Act.put,ac,ag,ah];apply bf
 · intro x;go_simp;done
 · intro x L W R hJ h1 h2 h3 hR
   skip
   unfold aR
   go_simp
   simp only[aJ];refine (HQR.out W).mono ?_;rintro e w' ⟨rfl,hb⟩;exact ⟨_,rfl,hR _ (hJ.far hb)⟩
 simp only[Act.put,ac,ag,ah]
 iterate 3
  apply bf
  · intro x;go_simp;done
  · intro x L W R hJ h1 h2 h3 hR
    try unfold iC
    unfold aR
    go_simp
    simp only[aJ];exact hR _ hJ
  simp only[Act.put,ac,ag,ah]
 apply bI
 · intro x;go_simp;done
 · intro x L W R hJ h1 h2 h3 hR;have hj:=hJ.far (aO W (.cells #[.int .i64 0,.bool false,.slice none 0 0] 73));have HJ:=hid hj;have HR0:=hid (ar hJ.rb);have HO:Hid (L 14=true→∃B,x 14=.pointer (some ⟨B,0,none⟩)∧B<W.heap.size):=hid (fun e=>by obtain ⟨B,q1,-,q3⟩:=hJ.b14 e;refine ⟨B,q1,?_⟩;split at q3 <;> exact ar q3);clear hJ hj;unfold aR
   go_simp
   simp only[aJ];have h15:L 15=false:=h3 15 (show (13:Nat)∈([0,1,2,3,4,5,6,7,8,9,10,11,13,14]:List Nat) by decide)
   exact hR _ _ ⟨HJ.out.nb,HJ.out.rb,HJ.out.kb,HJ.out.bel,fun _=>⟨_,rfl,HR0.out,by show (if L 15=true then _ else _);rw[h15];exact aq W _⟩,HJ.out.b14,fun _ e h=>by
    obtain ⟨B,q1,q2⟩:=HO.out e;change Value.pointer _=x 14 at h;rw[q1] at h;injection h with h;injection h with h;injection h with h
    omega⟩
 simp only[Act.put,ac,ag,ah,aw,aN,Nat.zero_add,Nat.reduceAdd];apply bI
 · intro x;go_simp;done
 · intro x L W R hJ h1 h2 h3 hR;have hj:=hJ.far (aO W (.cells #[.int .i64 0,.bool false,.slice none 0 0] 73));have HJ:=hid hj;have HR0:=hid (ar hJ.rb);have HO:Hid (L 13=true→∃B,x 13=.pointer (some ⟨B,0,none⟩)∧B<W.heap.size):=hid (fun e=>by obtain ⟨B,q1,-,q3⟩:=hJ.b13 e;refine ⟨B,q1,?_⟩;split at q3 <;> exact ar q3);clear hJ hj;unfold aR
   go_simp
   simp only[aJ];have h16:L 16=false:=h3 16 (show (14:Nat)∈([0,1,2,3,4,5,6,7,8,9,10,11,12,13,14,15]:List Nat) by decide)
   exact hR _ _ ⟨HJ.out.nb,HJ.out.rb,HJ.out.kb,HJ.out.bel,HJ.out.b13,fun _=>⟨_,rfl,HR0.out,by show (if L 16=true then _ else _);rw[h16];exact aq W _⟩,fun e _ h=>by
    obtain ⟨B,q1,q2⟩:=HO.out e;change x 13=Value.pointer _ at h;rw[q1] at h;injection h with h;injection h with h;injection h with h
    omega⟩
 simp only[Act.put,ac,ag,ah,aw,aN,Nat.zero_add,Nat.reduceAdd];apply bI
 · intro x;go_simp;done
 · intro x L W R hJ h1 h2 h3 hR;have hi:L 15=false:=h2;obtain ⟨B,q1,q2,q3⟩:=hJ.b13 (h1 13 (show (13:Nat)∈([0,1,2,3,4,5,6,7,8,9,10,11,13,14]:List Nat) by decide));rw[hi,aB Bool.false_ne_true] at q3;have f0:=aa q3 0;have g0:=aK q3 0;have f1:=aa q3 1;have g1:=aK q3 1;have f2:=aa q3 2;have g2:=aK q3 2;have HJ:=hid hJ;have HQ:=hid q3;clear hJ q3;rw[q1];unfold aR
   go_simp
   simp only[aJ];have hs1:=heap_set (heap_set (heap_set HQ.out 0 (.int .i64 (a / b))) 1 (.bool false)) 2 (.slice none 0 0);have hs2:∀b',b'≠B→(((W.setCell ⟨B,0,none⟩ (.int .i64 (a / b))).setCell ⟨B,1,none⟩ (.bool false)).setCell ⟨B,2,none⟩ (.slice none 0 0)).heap[b']? =W.heap[b']? :=fun b' hb=>(aG _ _ _ _ hb).trans ((aG _ _ _ _ hb).trans (aG _ _ _ _ hb))
   have hw:w.heap.size+1<B:=q2;have hwB:w.heap.size≤B:=by omega
   refine hR _ _ ⟨(hs2 _ (by omega)).trans HJ.out.nb,(hs2 _ (by omega)).trans HJ.out.rb,(hs2 _ (by have:=HKB.out;omega)).trans HJ.out.kb,((HJ.out.bel.setCell hwB _).setCell hwB _).setCell hwB _,fun _=>⟨B,q1,q2,hs1⟩,fun e=>?_,HJ.out.ne⟩;obtain ⟨B',r1,r2,r3⟩:=HJ.out.b14 e;have hne:B'≠B:=fun e'=>HJ.out.ne (h1 13 (show (13:Nat)∈([0,1,2,3,4,5,6,7,8,9,10,11,13,14]:List Nat) by decide)) (h1 14 (show (14:Nat)∈([0,1,2,3,4,5,6,7,8,9,10,11,13,14]:List Nat) by decide)) (by rw[q1,r1,e'])
   exact ⟨B',r1,r2,by show (if L 16=true then _ else _);split at r3 <;> rename_i hh <;> first | (rw[aF hh];exact (hs2 B' hne).trans r3) | (rw[aB hh];exact (hs2 B' hne).trans r3)⟩
 simp only[Act.put];apply bI
 · intro x;go_simp;done
 · intro x L W R hJ h1 h2 h3 hR;have hi:L 16=false:=h2;obtain ⟨B,q1,q2,q3⟩:=hJ.b14 (h1 14 (show (14:Nat)∈([0,1,2,3,4,5,6,7,8,9,10,11,12,13,14,15]:List Nat) by decide));rw[hi,aB Bool.false_ne_true] at q3;have f0:=aa q3 0;have g0:=aK q3 0;have f1:=aa q3 1;have g1:=aK q3 1;have f2:=aa q3 2;have g2:=aK q3 2;have HJ:=hid hJ;have HQ:=hid q3;clear hJ q3;rw[q1];unfold aR
   go_simp
   simp only[aJ];have hs1:=heap_set (heap_set (heap_set HQ.out 0 (.int .i64 (a % b))) 1 (.bool false)) 2 (.slice none 0 0);have hs2:∀b',b'≠B→(((W.setCell ⟨B,0,none⟩ (.int .i64 (a % b))).setCell ⟨B,1,none⟩ (.bool false)).setCell ⟨B,2,none⟩ (.slice none 0 0)).heap[b']? =W.heap[b']? :=fun b' hb=>(aG _ _ _ _ hb).trans ((aG _ _ _ _ hb).trans (aG _ _ _ _ hb))
   have hw:w.heap.size+1<B:=q2;have hwB:w.heap.size≤B:=by omega
   refine hR _ _ ⟨(hs2 _ (by omega)).trans HJ.out.nb,(hs2 _ (by omega)).trans HJ.out.rb,(hs2 _ (by have:=HKB.out;omega)).trans HJ.out.kb,((HJ.out.bel.setCell hwB _).setCell hwB _).setCell hwB _,fun e=>?_,fun _=>⟨B,q1,q2,hs1⟩,HJ.out.ne⟩;obtain ⟨B',r1,r2,r3⟩:=HJ.out.b13 e;have hne:B'≠B:=fun e'=>HJ.out.ne (h1 13 (show (13:Nat)∈([0,1,2,3,4,5,6,7,8,9,10,11,12,13,14,15]:List Nat) by decide)) (h1 14 (show (14:Nat)∈([0,1,2,3,4,5,6,7,8,9,10,11,12,13,14,15]:List Nat) by decide)) (by rw[q1,r1,e'])
   exact ⟨B',r1,r2,by show (if L 15=true then _ else _);split at r3 <;> rename_i hh <;> first | (rw[aF hh];exact (hs2 B' hne).trans r3) | (rw[aB hh];exact (hs2 B' hne).trans r3)⟩
 simp only[Act.put];refine ia (by kernel_rfl) (by kernel_rfl) ⟨HNB1.out,HRB1.out,HKB1.out,HB1.out.drew,(fun e=>by cases e),(fun e=>by cases e),(fun e=>by cases e)⟩ ?_;intro x L W hJ hL;have l13:L 13=true:=hL 13 (show 13<17 by decide);have l15:L 15=true:=hL 15 (show 15<17 by decide);obtain ⟨B,q1,q2,q3⟩:=hJ.b13 l13;rw[aF l15] at q3;rw[q1];have n0:=aa hJ.nb 0;have HQ:=hid q3;have HRB:=hid hJ.rb;have HBL:=hid hJ.bel;have v0:=aa q3 0;have v1:=aa q3 1;have v2:=aa q3 2;clear hJ hL l13 l15 q3 q1
 go_wp2_with fail
 refine (HFI.out W).mono ?_;rintro e w2 ⟨rfl,hb⟩;have HRB2:=hid ((hb.block _ (ar HRB.out)).trans HRB.out);have HBL2:=hid (HBL.out.trans (hb.mono HBL.out.size));clear hb v0 v1 v2 n0
 go_wp2_with fail
 refine (wD (z:=a / b) w2).mono ?_;rintro e w3 ⟨rfl,hb⟩;have hrb:=(hb.block _ (ar HRB2.out)).trans HRB2.out;have HBL3:=hid (HBL2.out.trans (hb.mono HBL2.out.size));unfold cL at hrb;have f0:=aa hrb 0;have g0:=aK hrb 0;have f1:=aa hrb 1;have g1:=aK hrb 1;have f2:=aa hrb 2;have g2:=aK hrb 2;have f3:=aa hrb 3;have g3:=aK hrb 3;have f4:=aa hrb 4;have g4:=aK hrb 4;have f5:=aa hrb 5;have g5:=aK hrb 5;have f6:=aa hrb 6;have g6:=aK hrb 6;have f7:=aa hrb 7;have g7:=aK hrb 7;have f8:=aa hrb 8;have g8:=aK hrb 8;have f9:=aa hrb 9;have g9:=aK hrb 9;have f10:=aa hrb 10;have g10:=aK hrb 10;have f11:=aa hrb 11;have g11:=aK hrb 11;have f12:=aa hrb 12;have g12:=aK hrb 12;have hfin:=dx (cL 2 (a / b)) 0 hrb;rw[iX] at hfin
 rotate_left
 · rfl
 have HF:=hid hfin;clear hb hrb hfin;unfold cC cL
 go_wp2
 exact jK (s:=2) (z:=a / b) rfl rfl rfl HF.out ⟨rfl,Below.sets (by omega) (cL 2 (a / b)) 0 HBL3.out⟩
end Go.Proofs.YtpkfnnkbfphfbaaGreatDoor.Se

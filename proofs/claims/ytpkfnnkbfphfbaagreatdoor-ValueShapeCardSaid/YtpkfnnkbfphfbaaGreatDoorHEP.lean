import Derived.Test.YtpkfnnkbfphfbaaGreatDoorHEM
import Derived.Test.YtpkfnnkbfphfbaaGreatDoorHVL
set_option maxRecDepth 100000
set_option maxHeartbeats 40000000
open Go.Lib (hid)
namespace Go.Proofs.YtpkfnnkbfphfbaaGreatDoor.Se
open Go.RowKit Nmx Go.Proofs.Tryz
theorem qk {P:Program} (t:TypeId) (w:World):(Instr.makeMap t none).run P w=.ok (.map (some w.heap.size)) (w.alloc (.map #[] 0)):=by
 simp[Instr.makeMap,Result.andThen]
structure VJ (z:Int) (tz:ByteArray) (w:World) (p6:Bool) (W:World):Prop where
 cb:W.heap[w.heap.size]? =some (.cells (cL 2 z).toArray 95 (0,0))
 rb:W.heap[w.heap.size+1]? =some (.cells (if p6=true then #[.int .i64 2,.bool false,.string tz,.slice none 0 0,.slice none 0 0] else #[.int .i64 0,.bool false,.string ⟨#[]⟩,.slice none 0 0,.slice none 0 0]) 24 (0,0))
 bel:Below w.heap.size w W
theorem VJ.far {z:Int} {tz:ByteArray} {w:World} {p6:Bool} {W W':World} (h:VJ z tz w p6 W) (hb:Below W.heap.size W W'):VJ z tz w p6 W':=
 ⟨(hb.block _ (ar h.cb)).trans h.cb,(hb.block _ (ar h.rb)).trans h.rb,h.bel.trans (hb.mono h.bel.size)⟩
theorem si {z:Int} (w:World) (hEn:Env w) (hz:aV z):Calls prog 61 #[cC 2 z] w fun e w'=>e=.returned (bh 2 false (TI z) noS noS)∧Below w.heap.size w w':=by
 have HST:=hid fun (W:World) (hW:Below w.heap.size w W)=>yI hz W (hEn.far hW)
 obtain ⟨tz,htz⟩:∃t,TI z=t:=⟨_,rfl⟩
 rw[htz] at HST;rw[htz];have hA:=aO w (.cells (cL 2 z).toArray 95);have hA2:=aO (w.alloc (.cells (cL 2 z).toArray 95)) (.cells #[.int .i64 0,.bool false,.string ⟨#[]⟩,.slice none 0 0,.slice none 0 0] 24);have b1:=(hA2.block _ (ar (aq w (.cells (cL 2 z).toArray 95)))).trans (aq w (.cells (cL 2 z).toArray 95));have b2:=aq (w.alloc (.cells (cL 2 z).toArray 95)) (.cells #[.int .i64 0,.bool false,.string ⟨#[]⟩,.slice none 0 0,.slice none 0 0] 24);rw[show (w.alloc (.cells (cL 2 z).toArray 95)).heap.size=w.heap.size+1 by simp] at b2;have HB1:=hid (hA.trans (hA2.mono hA.size));have HC1:=hid b1;have HR1:=hid b2;clear hA hA2 b2 htz hEn;unfold cL at HB1 HC1 HR1 b1;have n0:=aa b1 0;clear b1;unfold bh noS cC cL
 go_enter func61,ntmps61
 go_upto_region 6 with fail
 generalize hw1:World.alloc _ _=w1 at *;clear n0 hw1;refine cE [[],[0],[],[2],[2,3],[0,1,2,3,4],[0,1,2,3,4,5]] (fun _ L W=>VJ z tz w (L 6) W) ?_
 iterate 4
  apply bf
  · intro x;go_simp;done
  · intro x L W R hJ h1 h2 h3 hR;have hk:=hJ.cb;unfold cL at hk;have k0:=aa hk 0;have k2:=aa hk 2;have k3:=aa hk 3;have k4:=aa hk 4;have k5:=aa hk 5;have k6:=aa hk 6;have k7:=aa hk 7;clear hk;unfold aR
    go_simp
    simp only[aJ];exact hR _ hJ
  simp only[Act.put,ac,ag,ah]
 apply bf
 · intro x;go_simp;done
 · intro x L W R hJ h1 h2 h3 hR
   skip
   unfold aR
   go_simp
   simp only[aJ];refine (HST.out W hJ.bel).mono ?_;rintro e w' ⟨rfl,hb⟩;exact ⟨_,rfl,hR _ (hJ.far hb)⟩
 simp only[Act.put,ac,ag,ah];apply bf
 · intro x;go_simp;done
 · intro x L W R hJ h1 h2 h3 hR
   skip
   unfold aR
   go_simp
   simp only[aJ];exact hR _ hJ
 simp only[Act.put,ac,ag,ah];apply bI
 · intro x;go_simp;done
 · intro x L W R hJ h1 h2 h3 hR;have l6:L 6=false:=h2;have hrb:=hJ.rb;rw[l6] at hrb;have f0:=aa hrb 0;have g0:=aK hrb 0;have f1:=aa hrb 1;have g1:=aK hrb 1;have f2:=aa hrb 2;have g2:=aK hrb 2;have f3:=aa hrb 3;have g3:=aK hrb 3;have f4:=aa hrb 4;have g4:=aK hrb 4;have HJ:=hid hJ;have HQ:=hid hrb;clear hJ hrb;unfold aR
   go_simp
   simp only[aJ];obtain ⟨s1,s2,s3⟩:=m9 HQ.out (.int .i64 2) (.bool false) (.string tz) (.slice none 0 0) (.slice none 0 0);exact hR _ _ ⟨(s2 _ (by omega)).trans HJ.out.cb,s1,s3 HJ.out.bel (by omega)⟩
 simp only[Act.put];refine ia (by kernel_rfl) (by kernel_rfl) ⟨HC1.out,HR1.out,HB1.out.drew⟩ ?_;intro x L W hJ hL;have l6:L 6=true:=hL 6 (show 6<7 by decide);rw[l6] at hJ;have HJ:=hid hJ;clear hJ hL l6
 go_wp2
 exact d8 rfl rfl rfl ⟨_,_,_,rfl⟩ ⟨_,_,_,rfl⟩ HJ.out.rb ⟨rfl,HJ.out.bel⟩
theorem wE {E g c:Nat} {a b:Int} {m1 m2:Value} (w:World) (hEn:∀W,w.grownBy W (some E)→Env W) (ha:aV a) (hb0:aV b) (h0:b≠0) (hq:aV (a / b)) (hr:aV (a % b)) (h:EV E g c [⟨16,0,⟨#[]⟩,TI b,1⟩,⟨3,2,⟨#[]⟩,TI a,0⟩] 0 m1 m2 w):
    Calls prog 60 #[.pointer (some ⟨E,0,none⟩)] w fun e w'=>e=.returned (cC 2 (a / b))∧EV E g c [⟨16,0,⟨#[]⟩,TI b,1⟩,⟨3,2,⟨#[]⟩,TI a,0⟩] 2 m1 m2 w'∧w.grownBy w' (some E):=by
 have hA:=aO w (.cells (cL 0 0).toArray 95);obtain ⟨ts,hts⟩:∃ts:List Nd,[(⟨16,0,⟨#[]⟩,TI b,1⟩:Nd),⟨3,2,⟨#[]⟩,TI a,0⟩]=ts:=⟨_,rfl⟩
 have hn:ts.length=2:=by rw[←hts];rfl
 have hi0:ts[0]? =some ⟨16,0,⟨#[]⟩,TI b,1⟩:=by rw[←hts];rfl
 have hi1:ts[1]? =some ⟨3,2,⟨#[]⟩,TI a,0⟩:=by rw[←hts];rfl
 rw[hts] at h;rw[hts];clear hts;have HEV:=hid (h.far hA);have HRB:=hid (aq w (.cells (cL 0 0).toArray 95));have HBL:=hid hA;have HER:Hid (E<w.heap.size):=hid (ar h.ev);have HGR:Hid (g<w.heap.size):=hid h.gl;have HTN:=hid fun (W:World) (hW:NodesAt W g ts)=>eG hi0 hW
 have HEN:=hid hEn;have HLF:=hid fun (W:World) (hW:w.grownBy W (some E)) (hv:EV E g c ts ((1:Nat):Int) m1 m2 W)=>vk W (fun W' hW'=>hEn W' (grown_trans hW hW')) ha hi1 (by omega) hv
 have HOP:=hid fun (W:World) (hW:w.grownBy W (some E)) (K:Nat) (hK:W.heap[K]? =some (.cells (cL 2 a).toArray 95 (0,0)))=>Aw (c:=1) W (hEn W hW) ha hb0 h0 hq hr hK
 obtain ⟨tb,htb⟩:∃t,TI b=t:=⟨_,rfl⟩
 rw[htb] at HTN HOP;clear hA h hEn htb hi0 hi1;have hil:ts.length≤1000:=by omega
 unfold cL at HRB HEV HBL;simp only[Nat.zero_mul,Nat.zero_add] at HTN
 go_enter func60,ntmps60
 go_upto_region 1 with fail
 generalize hw1:World.alloc _ _=w1 at *;generalize hR:w.heap.size=rI at *;have HRW:=hid hR;refine cE [[],[0],[0,1],[0,1,2],[],[4],[4,5],[4,5,6],[0,1,2,3,4,5,6,7],[0,1,2,3,4,5,6,7,8],[],[0,1,2,3,4,5,6,7,8,9,10]] (fun x L W=>NJ E g c ts 0 m1 m2 rI #[.int .i64 16,.int .i64 0,.string ⟨#[]⟩,.string tb,.int .i64 1] w (L 10) (L 11) (x 10) W) ?_
 iterate 8
  apply bf
  · intro x;go_simp;done
  · intro x L W R hJ h1 h2 h3 hR;have z0:=aa hJ.ev.ev 0;have z1:=aa hJ.ev.ev 1;unfold aR
    go_simp
    simp only[aJ];exact hR _ hJ
  simp only[Act.put,ac,ag,ah]
 apply bf
 · intro x;go_simp;done
 · intro x L W R hJ h1 h2 h3 hR
   skip
   unfold aR
   go_simp
   simp only[aJ];exact hR _ hJ
 simp only[Act.put,ac,ag,ah];apply bf
 · intro x;go_simp;done
 · intro x L W R hJ h1 h2 h3 hR;obtain ⟨q0,q1,q2,q3,q4⟩:=HTN.out W hJ.ev.nd;unfold aR
   go_simp
   simp only[aJ];exact hR _ hJ
 simp only[Act.put,ac,ag,ah];apply bI
 · intro x;go_simp;done
 · intro x L W R hJ h1 h2 h3 hR;have hj:=hJ.far (aO W (.cells #[.int .i64 0,.int .i64 0,.string ⟨#[]⟩,.string ⟨#[]⟩,.int .i64 0] 57));have HJ:=hid hj;have HR0:=hid (ar hJ.rb);clear hJ hj;unfold aR
   go_simp
   simp only[aJ];have h11:L 11=false:=h3 11 (show (10:Nat)∈([0,1,2,3,4,5,6,7,8,9,10]:List Nat) by decide);exact hR _ _ ⟨HJ.out.ev,HJ.out.rb,HJ.out.bel,fun _=>⟨_,rfl,HR0.out,by show (if L 11=true then _ else _);rw[h11];exact aq W _⟩⟩
 simp only[Act.put,ac,ag,ah,aw,aN,Nat.zero_add,Nat.reduceAdd];apply bI
 · intro x;go_simp;done
 · intro x L W R hJ h1 h2 h3 hR;have h11:L 11=false:=h2;obtain ⟨N,q1,q2,q3⟩:=hJ.b10 (h1 10 (show (10:Nat)∈([0,1,2,3,4,5,6,7,8,9,10]:List Nat) by decide));rw[h11,aB Bool.false_ne_true] at q3;have f0:=aa q3 0;have g0:=aK q3 0;have f1:=aa q3 1;have g1:=aK q3 1;have f2:=aa q3 2;have g2:=aK q3 2;have f3:=aa q3 3;have g3:=aK q3 3;have f4:=aa q3 4;have g4:=aK q3 4;have HJ:=hid hJ;have HQ:=hid q3;clear hJ q3;rw[q1];unfold aR
   go_simp
   simp only[aJ];obtain ⟨s1,s2,s3⟩:=m9 HQ.out (.int .i64 16) (.int .i64 0) (.string ⟨#[]⟩) (.string tb) (.int .i64 1);exact hR _ _ ⟨HJ.out.ev.blocks (s2 E (by have:=HER.out;omega)) (s2 g (by have:=HGR.out;omega)),(s2 rI (by omega)).trans HJ.out.rb,s3 HJ.out.bel (by omega),fun _=>⟨N,q1,q2,s1⟩⟩
 simp only[Act.put];refine ia (by kernel_rfl) (by kernel_rfl) ⟨HEV.out.drew,HRB.out,HBL.out.drew,(fun e=>by cases e)⟩ ?_;intro x L W hJ hL;have l10:L 10=true:=hL 10 (show 10<12 by decide);have l11:L 11=true:=hL 11 (show 11<12 by decide);rw[l10,l11] at hJ;obtain ⟨N,q1,q2,q3⟩:=hJ.b10 rfl;rw[aF rfl] at q3;have hev:=hJ.ev;have hrb:=hJ.rb;have hbl:=hJ.bel;rw[q1];have HEV2:=hid hev;have HRB2:=hid hrb;have HBL2:=hid hbl;have HN2:=hid q3;have HNR:Hid (rI<N):=hid q2;have e1:=aa hev.ev 1;have e1z:=aK hev.ev 1;clear hJ hL l10 l11 hev hrb hbl q1 q3 HEV HRB HBL
 go_upto_region 3 with fail
 have hnE:∀b,b≠E→(W.setCell ⟨E,1,none⟩ (.int .i64 1)).heap[b]? =W.heap[b]? :=fun b hb=>aG _ _ _ _ hb
 have hev:EV E g c ts ((1:Nat):Int) m1 m2 (W.setCell ⟨E,1,none⟩ (.int .i64 1)):=⟨heap_set HEV2.out.ev 1 _,fun i x hx j hj=>(World.cell?_of_block (a:=⟨g,i*5+j,none⟩) (hnE g HEV2.out.ne.symm)).trans (HEV2.out.nd i x hx j hj),by simpa [World.setCell] using HEV2.out.gl,HEV2.out.ne⟩
 have hgr:w.grownBy (W.setCell ⟨E,1,none⟩ (.int .i64 1)) (some E):=dQ (dt (cx (by rw[HRW.out];exact HBL2.out))) 1 _;have hN:=(hnE N (by have:=HNR.out;have:=HER.out;omega)).trans HN2.out;have hR:=(hnE rI (by have:=HER.out;omega)).trans HRB2.out;clear e1 e1z HEV2 HRB2 HBL2 HN2 hnE;generalize hw3:W.setCell ⟨E,1,none⟩ (.int .i64 1)=w3 at *;have hal:=aO w3 (.cells (cL 0 0).toArray 95);have HEV3:=hid (hev.far hal);have HGR3:=hid (cK hgr hal);have HN3:=hid ((hal.block _ (ar hN)).trans hN);have HR3:=hid ((hal.block _ (ar hR)).trans hR);have HK3:=hid (aq w3 (.cells (cL 0 0).toArray 95));have n4:=aa hN 4;have HKN:Hid (N<w3.heap.size∧rI<w3.heap.size):=hid ⟨ar hN,ar hR⟩;have HKE:Hid (E<w3.heap.size∧g<w3.heap.size):=hid ⟨ar hev.ev,hev.gl⟩;have HWS:Hid (w.heap.size≤w3.heap.size):=hid hgr.size;have hmk:=se w3;clear hev hgr hN hR hw3 hal
 go_upto_region 4 with fail
 clear hmk n4;generalize hK:w3.heap.size=K at *;generalize hw4:w3.alloc (.cells (cL 0 0).toArray 95)=w4 at *;clear hw4
 go_wp2_with fail
 go_loopw [5,28] (fun v5 v wr=>(v=.int .i64 0∧wr=w4)∨(v=.int .i64 1∧EV E g c ts 2 m1 m2 wr∧w.grownBy wr (some E)∧wr.heap[N]? =some (.cells #[.int .i64 16,.int .i64 0,.string ⟨#[]⟩,.string tb,.int .i64 1] 57 (0,0))∧wr.heap[rI]? =some (.cells (cL 0 0).toArray 95 (0,0))∧wr.heap[K]? =some (.cells (cL 2 a).toArray 95 (0,0)))) (fun _ v _=>1-(intOf v).toNat)
 case atStart=>exact .inl ⟨rfl,rfl⟩
 case round=>
  rcases hrel with ⟨rfl,rfl⟩ | ⟨rfl,hev,hgr,hN,hR,hKK⟩
  · go_wp2_with fail
    refine (HLF.out _ HGR3.out HEV3.out).mono ?_;rintro e w5 ⟨rfl,hev,hg5⟩;have hE1:∀b,b<wr.heap.size→b≠E→w5.heap[b]? =wr.heap[b]? :=fun b hb hne=>hg5.block b hb fun e=>hne (aI e)
    have hN:=(hE1 N (ar HN3.out) (by have:=HNR.out;have:=HER.out;omega)).trans HN3.out;have hR:=(hE1 rI (ar HR3.out) (by have:=HER.out;omega)).trans HR3.out;have hKK:=(hE1 K (ar HK3.out) (by have:=HKE.out;omega)).trans HK3.out;have hgr:=grown_trans HGR3.out hg5;have HEV5:=hid hev;have HGR5:=hid hgr;have HN5:=hid hN;have HR5:=hid hR;have HK5:=hid hKK;unfold cL at hKK;have f0:=aa hKK 0;have q0:=aK hKK 0;have f1:=aa hKK 1;have q1:=aK hKK 1;have f2:=aa hKK 2;have q2:=aK hKK 2;have f3:=aa hKK 3;have q3:=aK hKK 3;have f4:=aa hKK 4;have q4:=aK hKK 4;have f5:=aa hKK 5;have q5:=aK hKK 5;have f6:=aa hKK 6;have q6:=aK hKK 6;have f7:=aa hKK 7;have q7:=aK hKK 7;have f8:=aa hKK 8;have q8:=aK hKK 8;have f9:=aa hKK 9;have q9:=aK hKK 9;have f10:=aa hKK 10;have q10:=aK hKK 10;have f11:=aa hKK 11;have q11:=aK hKK 11;have f12:=aa hKK 12;have q12:=aK hKK 12;have hfin:=dx (cL 2 a) 0 hKK;rw[iX] at hfin
    rotate_left
    · rfl
    have HF:=hid hfin;clear hev hg5 hE1 hN hR hgr hfin hKK;unfold cC cL
    go_wp2_with fail
    go_roundw
    case rel=>
     refine .inr ⟨rfl,HEV5.out.blocks (cq (by have:=HKE.out;omega) (cL 2 a) 0 w5) (cq (by have:=HKE.out;omega) (cL 2 a) 0 w5),ik (by have:=HWS.out;omega) (cL 2 a) 0 HGR5.out,(cq (by have:=HKN.out;omega) (cL 2 a) 0 w5).trans HN5.out,(cq (by have:=HKN.out;omega) (cL 2 a) 0 w5).trans HR5.out,HF.out⟩
    case measure=>simp[intOf]
  · have n0:=aa hN 0;have n1:=aa hN 1;have n2:=aa hN 2;have n3:=aa hN 3;have n4:=aa hN 4;have e4:=aa hev.ev 4;have HEV6:=hid hev;have HGR6:=hid hgr;have HR6:=hid hR;have hop:=HOP.out _ hgr K hKK;clear hev hgr hN hR hKK
    go_wp2_with fail
    refine hop.mono ?_;rintro e w7 ⟨rfl,hb⟩;have hR:=(hb.block _ (ar HR6.out)).trans HR6.out;have HEV7:=hid (HEV6.out.far hb);have HGR7:=hid (cK HGR6.out hb);unfold cL at hR;have f0:=aa hR 0;have q0:=aK hR 0;have f1:=aa hR 1;have q1:=aK hR 1;have f2:=aa hR 2;have q2:=aK hR 2;have f3:=aa hR 3;have q3:=aK hR 3;have f4:=aa hR 4;have q4:=aK hR 4;have f5:=aa hR 5;have q5:=aK hR 5;have f6:=aa hR 6;have q6:=aK hR 6;have f7:=aa hR 7;have q7:=aK hR 7;have f8:=aa hR 8;have q8:=aK hR 8;have f9:=aa hR 9;have q9:=aK hR 9;have f10:=aa hR 10;have q10:=aK hR 10;have f11:=aa hR 11;have q11:=aK hR 11;have f12:=aa hR 12;have q12:=aK hR 12;have hfin:=dx (cL 2 (a / b)) 0 hR;rw[iX] at hfin
    rotate_left
    · rfl
    have HF:=hid hfin;clear hb hop n0 n1 n2 n3 n4 e4 hR hfin;unfold cC cL
    go_wp2
    exact jK (s:=2) (z:=a / b) rfl rfl rfl HF.out ⟨rfl,HEV7.out.blocks (cq (by have:=HER.out;omega) (cL 2 (a / b)) 0 w7) (cq (by have:=HGR.out;omega) (cL 2 (a / b)) 0 w7),ik (by have:=HRW.out;omega) (cL 2 (a / b)) 0 HGR7.out⟩
def tsD:List Nd:=[⟨16,0,⟨#[]⟩,TI 2,1⟩,⟨3,2,⟨#[]⟩,TI (-7),0⟩]
theorem BK:vdF (naF tsD) tsD=true:=by kernel_rfl
theorem wF (g c:Nat) (w:World) (hEn:Env w) (hN:NodesAt w g tsD) (hg:g<w.heap.size):
    Calls prog 35 #[.slice (some ⟨g,0,none⟩) 2 c,.slice none 0 0,.slice none 0 0] w fun e w'=>e=.returned (.tuple #[bh 2 false (TI (-4)) noS noS,.int .i64 0])∧Below w.heap.size w w':=by
 have hA:=aO w (.cells #[.int .i64 0,.bool false,.string ⟨#[]⟩,.slice none 0 0,.slice none 0 0] 24)
 have hva:=iR (iT g c tsD _ (by decide) (aC hg hA.size) (hN.below hA hg) (by
  intro x hx;have hs:∀z:Int,Sm z→(TI z).size≤1000:=fun z h=>by have:=h.sz;omega
  rcases List.mem_cons.1 hx with rfl | hx
  · exact hs 2 (by unfold Sm;decide)
  · rw[List.mem_singleton.1 hx];exact hs (-7) (by unfold Sm;decide)) (hEn.far hA) (by
  intro x hx;rcases List.mem_cons.1 hx with rfl | hx
  · decide
  · rw[List.mem_singleton.1 hx];decide) (by kernel_rfl))
 rw[BK] at hva;have hva':Calls prog 49 #[.slice (some ⟨g,0,none⟩) 2 c] (w.alloc (.cells #[.int .i64 0,.bool false,.string ⟨#[]⟩,.slice none 0 0,.slice none 0 0] 24)) _:=hva;have HR:=hid (aq w (.cells #[.int .i64 0,.bool false,.string ⟨#[]⟩,.slice none 0 0,.slice none 0 0] 24));have HB:=hid hA;have HN:=hid hN;have HG:Hid (g<w.heap.size):=hid hg;have HEn:=hid hEn;clear hA hva hN hg hEn;have hm1:=@qk prog 81;have hm2:=@qk prog 82;unfold bh noS
 go_enter func35,ntmps35
 go_wp2_with fail
 generalize hw1:World.alloc _ _=w1 at *;refine hva'.mono ?_;rintro e w2 ⟨rfl,hb⟩;have hb2:=HB.out.trans (hb.mono HB.out.size);have hR2:=(hb.block _ (ar HR.out)).trans HR.out;have hN2:=HN.out.below hb2 HG.out;have HB2:=hid hb2;have HR2:=hid hR2;have HN2:=hid hN2;have HSZ:Hid (w.heap.size<w2.heap.size):=hid (ar hR2);clear hb hva' hb2 hR2 hN2 HB HR hw1;have a1:=aO w2 (.map #[] 0);have a2:=aO (w2.alloc (.map #[] 0)) (.map #[] 0);have a3:=aO ((w2.alloc (.map #[] 0)).alloc (.map #[] 0)) (.cells #[.slice (some ⟨g,0,none⟩) 2 c,.int .i64 0,.map (some w2.heap.size),.map (some (w2.heap.size+1)),.int .i64 0] 84);have hE:=aq ((w2.alloc (.map #[] 0)).alloc (.map #[] 0)) (.cells #[.slice (some ⟨g,0,none⟩) 2 c,.int .i64 0,.map (some w2.heap.size),.map (some (w2.heap.size+1)),.int .i64 0] 84);rw[show ((w2.alloc (.map #[] 0)).alloc (.map #[] 0)).heap.size=w2.heap.size+1+1 by simp] at hE;have hb3:=a1.trans ((a2.trans (a3.mono a2.size)).mono a1.size)
 go_upto_region 4 with fail
 generalize hw3:World.alloc (World.alloc (World.alloc _ _) _) _=w3 at *;have HE:=hid hE;have HB3:=hid (HB2.out.trans (hb3.mono HB2.out.size));have HR3:=hid ((hb3.block _ (ar HR2.out)).trans HR2.out);have HN3:=hid (HN.out.below HB3.out HG.out);clear a1 a2 a3 hb3 hE hw3 hm1 hm2 HB2 HR2 HN2
 go_wp2_with fail
 go_loop [28] (fun v=>v=.int .i64 0) (fun _=>0)
 case atStart=>exact rfl
 case round=>
  subst hrel
  go_wp2_with fail
  go_loop [60] (fun v=>v=.int .i64 0) (fun _=>0)
  case atStart=>exact rfl
  case round=>
   subst hrel;have hev:EV (w2.heap.size+1+1) g c tsD 0 (.map (some w2.heap.size)) (.map (some (w2.heap.size+1))) w3:=⟨HE.out,HN3.out,aC HG.out HB3.out.size,by have:=HG.out;have:=HSZ.out;omega⟩
   have hnd:=wE w3 (a:= -7) (b:=2) (fun W hW=>HEn.out.far (HB3.out.grown hW HB3.out.size (fun k e=>by cases e;have:=HSZ.out;omega))) (by unfold aV;decide) (by unfold aV;decide) (by decide) (by unfold aV;decide) (by unfold aV;decide) hev;rw[show (-7:Int) / 2= -4 by decide] at hnd;clear hev
   go_wp2_with fail
   refine hnd.mono ?_;rintro e w4 ⟨rfl,hev,hgr⟩;have hbe:=HB3.out.grown hgr HB3.out.size (fun k e=>by cases e;have:=HSZ.out;omega);have hR4:=(hgr.block _ (ar HR3.out) (fun e=>by have:=aI e;have:=HSZ.out;omega)).trans HR3.out;have hal:=aO w4 (.cells (cL 2 (-4)).toArray 95);have hc5:=aq w4 (.cells (cL 2 (-4)).toArray 95);have hE5:=(hal.block _ (ar hev.ev)).trans hev.ev;have HR5:=hid ((hal.block _ (ar hR4)).trans hR4);have HB5:=hid (hbe.trans (hal.mono hbe.size));have hval:=fun W (hW:Below w.heap.size w W)=>si (z:= -4) W (HEn.out.far hW) (by unfold aV;decide)
   have HVAL:=hid hval;clear hnd hev hgr hbe hR4 hal hval;unfold cC cL at hc5 HVAL ⊢;unfold cL at hE5 HR5 HB5
   go_upto_region 23 with fail
   generalize hw5:World.alloc w4 _=w5 at *;have e4:=aa hE5 4;have c0:=aa hc5 0;have c1:=aa hc5 1;have c2:=aa hc5 2;have c3:=aa hc5 3;have c4:=aa hc5 4;have c5:=aa hc5 5;have c6:=aa hc5 6;have c7:=aa hc5 7;have c8:=aa hc5 8;have c9:=aa hc5 9;have c10:=aa hc5 10;have c11:=aa hc5 11;have c12:=aa hc5 12;clear hc5 hE5 hw5
   go_wp2_with fail
   refine (HVAL.out _ HB5.out).mono ?_;rintro e w6 ⟨rfl,hb⟩;have hR:=(hb.block _ (ar HR5.out)).trans HR5.out;have HB6:=hid (HB5.out.trans (hb.mono HB5.out.size));have HFIN:=hid (m9 hR (.int .i64 2) (.bool false) (.string (TI (-4))) (.slice none 0 0) (.slice none 0 0));have f0:=aa hR 0;have f1:=aa hR 1;have f2:=aa hR 2;have f3:=aa hR 3;have f4:=aa hR 4;have g0:=aK hR 0;have g1:=aK hR 1;have g2:=aK hR 2;have g3:=aK hR 3;have g4:=aK hR 4;clear hb hR e4 c0 c1 c2 c3 c4 c5 c6 c7 c8 c9 c10 c11 c12;unfold bh noS
   go_wp2
   obtain ⟨s1,s2,s3⟩:=HFIN.out;exact jI (E:=0) rfl rfl rfl rfl ⟨_,_,_,rfl⟩ ⟨_,_,_,rfl⟩ s1 ⟨rfl,s3 HB6.out (aj _)⟩
end Go.Proofs.YtpkfnnkbfphfbaaGreatDoor.Se

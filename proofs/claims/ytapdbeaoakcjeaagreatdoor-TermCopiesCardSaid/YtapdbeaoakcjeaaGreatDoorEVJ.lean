/- The two texts of the sanity check, as items. -/
import Derived.Test.YtapdbeaoakcjeaaGreatDoorEVF
set_option maxRecDepth 100000
set_option maxHeartbeats 40000000
open Go.Lib (hid)
namespace Go.Proofs.YtapdbeaoakcjeaaGreatDoor.Se
open Go.RowKit Nmx
def yE:ByteArray:=⟨#[40,60,61,32,40,43,32,120,32,49,41,32,121,41]⟩
def wE:ByteArray:=⟨#[40,42,32,120,32,121,41]⟩
def mA:List It:=[⟨5,⟨#[]⟩,3,0⟩,⟨1,⟨#[60,61]⟩,0,1⟩,⟨5,⟨#[]⟩,3,4⟩,⟨1,⟨#[43]⟩,0,5⟩,⟨1,⟨#[120]⟩,0,7⟩,⟨2,⟨#[49]⟩,0,9⟩,⟨1,⟨#[121]⟩,0,12⟩]
def i6:List It:=[⟨5,⟨#[]⟩,3,0⟩,⟨1,⟨#[42]⟩,0,1⟩,⟨1,⟨#[120]⟩,0,3⟩,⟨1,⟨#[121]⟩,0,5⟩]
theorem wF:parseT yE=(mA,0,0):=by kernel_rfl
theorem uK:parseT wE=(i6,0,0):=by kernel_rfl
theorem wG:dx mA=some [7,2,6,4,5,6,7]:=by kernel_rfl
theorem uL:dx i6=some [4,2,3,4]:=by kernel_rfl
end Go.Proofs.YtapdbeaoakcjeaaGreatDoor.Se
/- Parse with variables alone. -/
namespace Go.Proofs.YtapdbeaoakcjeaaGreatDoor.Se
open Go.RowKit Nmx
theorem qw {w:World} {b:Nat} {v:Value} {its:List It} (h:w.ownsRow b 88 4 v its.length (hJ its)) (h0:0<its.length):∃g cap,v=.slice (some ⟨g,0,none⟩) its.length cap∧ItemsAt w g its∧g<w.heap.size∧b≤g:=by
 obtain ⟨_,h1 | ⟨g,cap,cur,hv,_⟩⟩:=id h
 · exact absurd h1.2 (by omega)
 · have hl:=h.lt g (by rw[hv];rfl);rw[hv] at h;refine ⟨g,cap,hv,fun i x hx j hj=>?_,hl.2,hl.1⟩;have hi:i<its.length:=(List.getElem?_eq_some_iff.1 hx).1;rw[h.cellAt (i*4+j) (by omega),qa its i x j hx hj]
section
theorem wH (ts:List Nd) (d so:Int) (s:ByteArray) (N gv cv:Nat) (av:Option Addr) (its:List It) (E:List Nat) (l:List (ByteArray×Int)) (w:World) (hEn:Env w)
    (hpt:parseT s=(its,0,0)) (hN:N≤65536) (hN0:0<N) (hits:its.length=N) (hvd:Vd its E) (hrt:trail E 0 N=[0]) (htx:∀x∈its,x.text.size<4294967281)
    (hav:l.length≠0→av=some ⟨gv,0,none⟩) (hgv:gv<w.heap.size) (hl:l.length≤100000) (hc:VarsAt w gv l) (hok:∀q∈l,bH q.1.toList=true∧1≤q.2∧q.2≤4)
    (hread:∀(R V F gi ci ge ce:Nat) (W:World),Below w.heap.size w W→RDR R V F gi N ci ge ce its E (fU [] l) W→Calls Tryz.prog 102 #[.pointer (some ⟨R,0,none⟩),.int .i64 0] W (cC ts d so W)) (hts:ts.length≤1000000):
    Calls Tryz.prog 22 #[.string s,.slice av l.length cv,.slice none 0 0] w (fun e w'=>∃g c,e=.returned (.tuple #[.slice (some ⟨g,0,none⟩) ts.length c,.int .i64 0,.int .i64 0])∧NodesAt w' g ts∧g<w'.heap.size∧Below w.heap.size w w'):=by
 obtain ⟨ml,hml⟩:=hEn.len;have hbig:=hEn.big;have hsp:=parse_any ml s w hbig hml;unfold ParsePost at hsp;rw[hpt] at hsp;simp only at hsp;have HRD:=hid hread;have HVD:=hid hvd;have HTX:=hid htx;have HC:=hid hc;have HOK:=hid hok;have HAV:=hid hav;have HML:=hid hml;have HITS:=hid hits;have HRT:=hid hrt;obtain ⟨nl,hnl⟩:∃nl,l.length=nl:=⟨_,rfl⟩
 have HNL:=hid hnl;clear hread hvd htx hc hok hav hml hits hrt hpt;rw[hnl];clear hnl
 go_enter Tryz.func22,Tryz.ntmps22
 go_wp2_with fail
 refine hsp.mono ?_;rintro e w2 ⟨v,rfl,hown,hb2⟩;obtain ⟨gi,ci,rfl,hit,hgi2,hgi1⟩:=qw hown (by rw[HITS.out];exact hN0);rw[HITS.out];have hro:=nI (some ⟨gi,0,none⟩) gi ci N its E ml w2 (by omega) HITS.out (fun _=>rfl) hgi2 hit HTX.out ((hb2.cell (p:=⟨0,0,none⟩) hbig).trans HML.out) HVD.out;rw[HRT.out] at hro;have HB2:=hid hb2;have HIT:=hid hit;clear hown hit hb2 hsp
 go_wp2_with fail
 refine hro.mono ?_;rintro e w3 ⟨vr,rfl,hrow,hb3⟩;obtain ⟨ar,gr,cr,hvr,-,-,-⟩:=gC hrow (by have:=hb3.size;have:=HB2.out.size;omega);subst hvr;have HB3:=hid (HB2.out.trans (hb3.mono HB2.out.size));have HIT3:=hid (HIT.out.below hb3 hgi2);have hgi3:=ap hgi2 hb3.size
 have HC3:Hid (VarsAt w3 gv l):=hid (fun j p hp=>by
  obtain ⟨q1,q2⟩:=HC.out j p hp
  exact ⟨(HB3.out.cell (p:=⟨gv,j*2,none⟩) hgv).trans q1,(HB3.out.cell (p:=⟨gv,j*2+1,none⟩) hgv).trans q2⟩)
 have hrd:=yd ts d so gi N ci gv cv av its E l w3 (hEn.far HB3.out) hN hN0 HITS.out HIT3.out hgi3 HVD.out HTX.out HAV.out (ap hgv HB3.out.size) hl HC3.out HOK.out (fun R V F ge ce W hW hr=>HRD.out R V F gi ci ge ce W (HB3.out.trans (hW.mono HB3.out.size)) hr) hts;rw[HNL.out] at hrd;clear hrow hro hb3 HB2 HIT hgi2 hgi1;simp only[au,aH,Nat.zero_add]
 go_wp2_with fail
 refine hrd.mono ?_;rintro e w4 ⟨g,c,rfl,hN4,hg4,hb4⟩;have HN4:=hid hN4;have HB4:=hid (HB3.out.trans (hb4.mono HB3.out.size));clear hN4 hb4 hrd
 go_wp2
 (try simp only[Exit.inBlock,Exit.then])
 exact bodyPost_ret (cO rfl _ _ _) rfl ⟨g,c,rfl,HN4.out,hg4,HB4.out⟩
theorem rW (at1:Nat) (er ps:Int) (s:ByteArray) (N gv cv:Nat) (av:Option Addr) (its:List It) (E:List Nat) (l:List (ByteArray×Int)) (w:World) (hEn:Env w)
    (hpt:parseT s=(its,0,0)) (hN:N≤65536) (hN0:0<N) (hits:its.length=N) (hvd:Vd its E) (hrt:trail E 0 N=[0]) (htx:∀x∈its,x.text.size<4294967281)
    (hav:l.length≠0→av=some ⟨gv,0,none⟩) (hgv:gv<w.heap.size) (hl:l.length≤100000) (hc:VarsAt w gv l) (hok:∀q∈l,bH q.1.toList=true∧1≤q.2∧q.2≤4)
    (hread:∀(R V F gi ci ge ce:Nat) (W:World),Below w.heap.size w W→RDR R V F gi N ci ge ce its E (fU [] l) W→Calls Tryz.prog 102 #[.pointer (some ⟨R,0,none⟩),.int .i64 0] W (fE R (rdC (some ⟨gi,0,none⟩) N ci (some ⟨ge,0,none⟩) N ce V F none 0 0 false) at1 er W)) (hat:at1<N) (hps:(its[at1]?).map It.pos=some ps) (he0:¬er=0) (he1:¬er=1):
    Calls Tryz.prog 22 #[.string s,.slice av l.length cv,.slice none 0 0] w (fun e w'=>e=.returned (.tuple #[.slice none 0 0,.int .i64 ps,.int .i64 er])∧Below w.heap.size w w'):=by
 obtain ⟨ml,hml⟩:=hEn.len;have hbig:=hEn.big;have hsp:=parse_any ml s w hbig hml;unfold ParsePost at hsp;rw[hpt] at hsp;simp only at hsp;have HRD:=hid hread;have HVD:=hid hvd;have HTX:=hid htx;have HC:=hid hc;have HOK:=hid hok;have HAV:=hid hav;have HML:=hid hml;have HITS:=hid hits;have HRT:=hid hrt;obtain ⟨nl,hnl⟩:∃nl,l.length=nl:=⟨_,rfl⟩
 have HNL:=hid hnl;clear hread hvd htx hc hok hav hml hits hrt hpt;rw[hnl];clear hnl
 go_enter Tryz.func22,Tryz.ntmps22
 go_wp2_with fail
 refine hsp.mono ?_;rintro e w2 ⟨v,rfl,hown,hb2⟩;obtain ⟨gi,ci,rfl,hit,hgi2,hgi1⟩:=qw hown (by rw[HITS.out];exact hN0);rw[HITS.out];have hro:=nI (some ⟨gi,0,none⟩) gi ci N its E ml w2 (by omega) HITS.out (fun _=>rfl) hgi2 hit HTX.out ((hb2.cell (p:=⟨0,0,none⟩) hbig).trans HML.out) HVD.out;rw[HRT.out] at hro;have HB2:=hid hb2;have HIT:=hid hit;clear hown hit hb2 hsp
 go_wp2_with fail
 refine hro.mono ?_;rintro e w3 ⟨vr,rfl,hrow,hb3⟩;obtain ⟨ar,gr,cr,hvr,-,-,-⟩:=gC hrow (by have:=hb3.size;have:=HB2.out.size;omega);subst hvr;have HB3:=hid (HB2.out.trans (hb3.mono HB2.out.size));have HIT3:=hid (HIT.out.below hb3 hgi2);have hgi3:=ap hgi2 hb3.size
 have HC3:Hid (VarsAt w3 gv l):=hid (fun j p hp=>by
  obtain ⟨q1,q2⟩:=HC.out j p hp
  exact ⟨(HB3.out.cell (p:=⟨gv,j*2,none⟩) hgv).trans q1,(HB3.out.cell (p:=⟨gv,j*2+1,none⟩) hgv).trans q2⟩)
 have hrd:=uJ at1 er gi N ci gv cv av its E l w3 (hEn.far HB3.out) hN hN0 HITS.out HIT3.out hgi3 HVD.out HTX.out HAV.out (ap hgv HB3.out.size) hl HC3.out HOK.out (fun R V F ge ce W hW hr=>HRD.out R V F gi ci ge ce W (HB3.out.trans (hW.mono HB3.out.size)) hr);rw[HNL.out] at hrd;clear hrow hro hb3 HB2 HIT hgi2 hgi1;simp only[au,aH,Nat.zero_add]
 go_wp2_with fail
 refine hrd.mono ?_;rintro e w4 ⟨rfl,hb4⟩;have HB4:=hid (HB3.out.trans (hb4.mono HB3.out.size));obtain ⟨x,hx,hxp⟩:=Option.map_eq_some_iff.1 hps;have c3:=(HIT3.out.below hb4 hgi3) at1 x hx 3 (by omega);simp only[It.cells,List.getElem?_cons_succ,List.getElem?_cons_zero,hxp] at c3;have g0:(er==0)=false:=by simp[he0]
 have g1:(er==1)=false:=by simp[he1]
 have hat':(at1:Int)<(N:Int):=by omega
 have hat0:(0:Int)≤(at1:Int):=by omega
 clear hb4 hrd hx hps he0 he1
 go_upto_region 13 with fail
 go_quiet (fail)
 go_wp2_with fail
 (try simp only[Exit.inBlock,Exit.then])
 exact bodyPost_ret (cO rfl _ _ _) rfl ⟨rfl,aO HB4.out _⟩
end
end Go.Proofs.YtapdbeaoakcjeaaGreatDoor.Se
/- The readings of the sanity check. -/
namespace Go.Proofs.YtapdbeaoakcjeaaGreatDoor.Se
open Go.RowKit Nmx
section
variable {R V F gi N ci ge ce:Nat} {its:List It} {E:List Nat} {vs:List (ByteArray×Int)} {w:World}
theorem ze (h:RDR R V F gi N ci ge ce its E vs w) (i:Nat) (tx:ByteArray) (kd ps:Int) (hi:i<N) (hx:its[i]? =some ⟨2,tx,kd,ps⟩):
    Calls Tryz.prog 102 #[.pointer (some ⟨R,0,none⟩),.int .i64 i] w (cC [⟨3,2,⟨#[]⟩,tx,0⟩] 1 2 w):=by
 have c:=h.it i _ hx;exact wu R V F gi (some ⟨ge,0,none⟩) none N ci N ce 0 0 i false 0 0 tx kd ps w h.rd h.gl hi (c 0 (by omega)) (c 1 (by omega)) (c 2 (by omega)) (c 3 (by omega))
theorem oU (h:RDR R V F gi N ci ge ce its E vs w) (i:Nat) (tx:ByteArray) (kd ps sort:Int) (hi:i<N) (hx:its[i]? =some ⟨1,tx,kd,ps⟩) (hl:bh tx vs=some sort):
    Calls Tryz.prog 102 #[.pointer (some ⟨R,0,none⟩),.int .i64 i] w (cC [⟨4,sort,tx,⟨#[]⟩,0⟩] 1 sort w):=by
 have c:=h.it i _ hx
 exact ww _ _ _ R V F gi (some ⟨ge,0,none⟩) none N ci N ce 0 0 i false 0 0 tx kd ps w h.rd h.gl hi (c 0 (by omega)) (c 1 (by omega)) (c 2 (by omega)) (c 3 (by omega))
  fun W hW=>rT R V F (some ⟨gi,0,none⟩) (some ⟨ge,0,none⟩) none N ci N ce 0 false 0 0 i tx vs sort W (h.far hW).rd (h.far hW).mv hl
theorem yF (h:RDR R V F gi N ci ge ce its E vs w) (i:Nat) (tx:ByteArray) (kd ps:Int) (hi:i<N) (hx:its[i]? =some ⟨5,tx,kd,ps⟩) (hN:N≤65536) (hits:its.length=N) (hvd:Vd its E)
    (hh:Nat) (ops:List Nat) (hd:ByteArray) (hk hp op least most:Int) (L:List (List Nd×Int×Int)) (htr:trail E (i+1) (E.getD i 0)=hh::ops) (hhd:its[hh]? =some ⟨1,hd,hk,hp⟩)
    (hcmp:(hd.toList==[108,101,116])=false∧(hd.toList==[100,105,118])=false∧(hd.toList==[109,111,100])=false∧(hd.toList==[42])=false∧(hd.toList==[47])=false∧(hd.toList==[45])=false∧(hd.toList==[62])=false∧(hd.toList==[62,61])=false∧(hd.toList==[100,105,115,116,105,110,99,116])=false)
    (hop:∀W,Calls Tryz.prog 173 #[.string hd] W fun e w'=>e=.returned (.tuple #[.int .i64 op,.int .i64 least,.int .i64 most])∧w'=W) (h1:1≤op∧op≤20) (h5:¬op=5) (h16:¬op=16) (h17:¬op=17) (hpos:0<ops.length) (hlo:least≤ops.length) (hhi:(ops.length:Int)≤most)
    (hL:L.length=ops.length) (hL2:ops.length≤1000000) (har:(arF op).1≤(L.length:Int)) (hrs:(rsF op 0 (L.map (·.2.2))).2=true) (hsz:1+szL L≤20000) (hdp:dpL L≤256)
    (hrd:∀k (hk:k<ops.length) (hl:k<L.length) W,Below w.heap.size w W→Calls Tryz.prog 102 #[.pointer (some ⟨R,0,none⟩),.int .i64 (ops[k]:Nat)] W (cC L[k].1 L[k].2.1 L[k].2.2 W)):
    Calls Tryz.prog 102 #[.pointer (some ⟨R,0,none⟩),.int .i64 i] w (cC (⟨op,0,⟨#[]⟩,⟨#[]⟩,L.length⟩::(L.map (·.1)).flatten) (dpL L+1) (rsF op 0 (L.map (·.2.2))).1 w):=by
 have c:=h.it i _ hx;refine uG _ _ _ R V F gi (some ⟨ge,0,none⟩) none N ci N ce 0 0 i false 0 0 tx kd ps w h.rd h.gl hi (c 0 (by omega)) (c 1 (by omega)) (c 2 (by omega)) (c 3 (by omega)) fun W hW=>?_
 have hr:=h.far hW;refine yc hd _ _ _ R V F gi ge none N ci ce 0 0 i hh 0 0 its E ops [] op least most hk hp L W hr.rd hN hits hr.it hr.gl (by rw[hvd.len,hits]) hr.en hr.el (fun j hj=>hvd.up j (by rw[hits];exact hj)) (fun j hj=>by have:=hvd.most j (by rw[hvd.len,hits];exact hj);rwa [hvd.len,hits] at this) hi htr hhd hr.mf rfl hcmp hop (by omega) h5 h16 h17 hpos hlo hhi hL (fun k hk hl W' hW'=>hrd k hk hl W' (hW.trans (hW'.mono hW.size))) fun W' b cc hW' hks=>?_
 have hno:=yb ⟨op,0,⟨#[]⟩,⟨#[]⟩,0⟩ R V F (some ⟨gi,0,none⟩) (some ⟨ge,0,none⟩) none (some ⟨b,0,none⟩) N ci N ce 0 0 b cc 0 0 i L W' (hr.far hW').rd hks h1 har hrs hsz hdp (by omega);rw[hL] at hno;rw[hL];exact hno
theorem ye (h:RDR R V F gi N ci ge ce its E vs w) (i:Nat) (hi:i<N) (hN:N≤65536) (hits:its.length=N) (hvd:Vd its E)
    (hh:Nat) (ops:List Nat) (hk hp:Int) (L:List (List Nd×Int×Int)) (htr:trail E (i+1) (E.getD i 0)=hh::ops) (hhd:its[hh]? =some ⟨1,⟨#[42]⟩,hk,hp⟩) (h2:ops.length=2)
    (hL:L.length=ops.length) (hpos:∀t∈L,0<t.1.length) (hno:∀t∈L,∀x,t.1[0]? =some x→¬x.op=3)
    (hrd:∀k (hk:k<ops.length) (hl:k<L.length) W,Below w.heap.size w W→Calls Tryz.prog 102 #[.pointer (some ⟨R,0,none⟩),.int .i64 (ops[k]:Nat)] W (cC L[k].1 L[k].2.1 L[k].2.2 W)):
    Calls Tryz.prog 141 #[.pointer (some ⟨R,0,none⟩),.int .i64 i] w (fE R (rdC (some ⟨gi,0,none⟩) N ci (some ⟨ge,0,none⟩) N ce V F none 0 0 false) i 8 w):=by
 refine uH 8 R V F gi ge none N ci ce 0 0 i hh 0 0 its E ops [] 15 2 2 hk hp L w h.rd hN hits h.it h.gl (by rw[hvd.len,hits]) h.en h.el (fun j hj=>hvd.up j (by rw[hits];exact hj)) (fun j hj=>by have:=hvd.most j (by rw[hvd.len,hits];exact hj);rwa [hvd.len,hits] at this) hi htr hhd h.mf rfl kp (by decide) (by decide) (by decide) (by decide) (by omega) (by omega) (by omega) hL hrd fun W' b cc hW' hks=>?_
 have:=rV R V F (some ⟨gi,0,none⟩) (some ⟨ge,0,none⟩) none N ci N ce 0 0 false 0 0 i (some ⟨b,0,none⟩) b cc L W' (h.far hW').rd hks (by omega) hpos hno;rw[h2];exact this
end
end Go.Proofs.YtapdbeaoakcjeaaGreatDoor.Se
/- read hands on a failure; the two readings. -/
namespace Go.Proofs.YtapdbeaoakcjeaaGreatDoor.Se
open Go.RowKit Nmx
section
theorem oV (at1 e0:Int) (R V F gi:Nat) (ae ab:Option Addr) (ni ci ne ce nb cb i:Nat) (cf:Bool) (p er:Int) (tx:ByteArray) (kd ps:Int) (w:World)
    (hR:w.heap[R]? =some (rdC (some ⟨gi,0,none⟩) ni ci ae ne ce V F ab nb cb cf p er)) (hgi:gi<w.heap.size) (hi:i<ni) (c0:w.cell? ⟨gi,i*4,none⟩=some (.int .i64 5)) (c1:w.cell? ⟨gi,i*4+1,none⟩=some (.string tx)) (c2:w.cell? ⟨gi,i*4+2,none⟩=some (.int .i64 kd)) (c3:w.cell? ⟨gi,i*4+3,none⟩=some (.int .i64 ps))
    (hcall:∀W,Below w.heap.size w W→Calls Tryz.prog 141 #[.pointer (some ⟨R,0,none⟩),.int .i64 i] W (fE R (rdC (some ⟨gi,0,none⟩) ni ci ae ne ce V F ab nb cb cf) at1 e0 W)):
    Calls Tryz.prog 102 #[.pointer (some ⟨R,0,none⟩),.int .i64 i] w (fE R (rdC (some ⟨gi,0,none⟩) ni ci ae ne ce V F ab nb cb cf) at1 e0 w):=by
 have hR0:=hR;unfold rdC at hR;have hlt:=ay hR;have r0:=ac hR 0;have hw0:=heap_alloc_new w (.cells #[.slice none 0 0,.int .i64 0,.int .i64 0] 134);have h1:=aD w (.cells #[.slice none 0 0,.int .i64 0,.int .i64 0] 134);have h2:=aD (w.alloc (.cells #[.slice none 0 0,.int .i64 0,.int .i64 0] 134)) (.cells #[.int .i64 5,.string tx,.int .i64 kd,.int .i64 ps] 88);have hS0:=ay hw0;have HB:=hid (h1.trans (h2.mono h1.size));have HW0:=hid ((h2.block _ hS0).trans hw0);clear h1 h2 hw0 hS0 hR hR0;have HCL:=hid (hcall _ HB.out);clear hcall
 go_enter Tryz.func102,Tryz.ntmps102
 go_wp2_with fail
 refine HCL.out.mono ?_;rintro e w4 ⟨rfl,hr4,hg4⟩;have hRS:R≠w.heap.size:=by omega
 have hne:some w.heap.size≠some R:=fun e=>hRS (aG e).symm
 have hx:=(hg4.block w.heap.size (ay HW0.out) hne).trans HW0.out;have hgg:=ku HB.out hg4;have HR4:=hid hr4;have HG4:=hid hgg;have HX4:=hid hx;have HRLT:=hid hlt;generalize hSS:w.heap.size=S at *;have HS:=hid hSS;have x0:=ac hx 0;have x1:=ac hx 1;have x2:=ac hx 2;have f0:=aM hx 0;have f1:=aM hx 1;have f2:=aM hx 2;clear hr4 hg4 hgg hx hSS hne r0 c0 c1 c2 c3 HCL HB HW0
 go_wp2
 (try simp only[Exit.inBlock,Exit.then])
 have hw4:=heap_set (heap_set (heap_set HX4.out 0 (.slice none 0 0)) 1 (.int .i64 0)) 2 (.int .i64 0);have hb4:Below S w4 (((w4.setCell ⟨S,0,none⟩ (.slice none 0 0)).setCell ⟨S,1,none⟩ (.int .i64 0)).setCell ⟨S,2,none⟩ (.int .i64 0)):=(((ah S w4).setCell (show S≤S from ag _) _).setCell (show S≤S from ag _) _).setCell (show S≤S from ag _) _;have s0:=ac hw4 0;have s1:=ac hw4 1;have s2:=ac hw4 2;generalize ((w4.setCell ⟨S,0,none⟩ (.slice none 0 0)).setCell ⟨S,1,none⟩ (.int .i64 0)).setCell ⟨S,2,none⟩ (.int .i64 0)=w5' at *;refine bodyPost_ret (v:=.tuple #[.agg #[.slice none 0 0,.int .i64 0,.int .i64 0],.bool false]) ?_ rfl ⟨rfl,(hb4.block R HRLT.out).trans HR4.out,fT HG4.out hb4 (by rw[HS.out];exact ag _)⟩;rw[results_cell_tmp rfl]
 go_simp
end
theorem wI:Vd mA [7,2,6,4,5,6,7]:=⟨wG,by decide+kernel,rfl,by decide+kernel,by decide+kernel⟩
theorem wJ:Vd i6 [4,2,3,4]:=⟨uL,by decide+kernel,rfl,by decide+kernel,by decide+kernel⟩
def xy:List (ByteArray×Int):=[(⟨#[120]⟩,2),(⟨#[121]⟩,2)]
theorem wK:fU [] xy=xy:=by decide+kernel
def yG:List Nd:=[⟨14,0,⟨#[]⟩,⟨#[]⟩,2⟩,⟨4,2,⟨#[120]⟩,⟨#[]⟩,0⟩,⟨3,2,⟨#[]⟩,⟨#[49]⟩,0⟩]
def qz:List Nd:=[⟨12,0,⟨#[]⟩,⟨#[]⟩,2⟩,⟨14,0,⟨#[]⟩,⟨#[]⟩,2⟩,⟨4,2,⟨#[120]⟩,⟨#[]⟩,0⟩,⟨3,2,⟨#[]⟩,⟨#[49]⟩,0⟩,⟨4,2,⟨#[121]⟩,⟨#[]⟩,0⟩]
theorem zf {R V F gi ci ge ce:Nat} {w:World} (h:RDR R V F gi 7 ci ge ce mA [7,2,6,4,5,6,7] xy w):
    Calls Tryz.prog 102 #[.pointer (some ⟨R,0,none⟩),.int .i64 (2:Nat)] w (cC yG 2 2 w):=by
 have:=yF h 2 ⟨#[]⟩ 3 4 (by decide) rfl (by decide) rfl wI 3 [4,5] ⟨#[43]⟩ 0 5 14 1 65536 [([⟨4,2,⟨#[120]⟩,⟨#[]⟩,0⟩],1,2),([⟨3,2,⟨#[]⟩,⟨#[49]⟩,0⟩],1,2)] (by decide+kernel) rfl (by decide+kernel) ko (by decide) (by decide) (by decide) (by decide) (by decide) (by decide) (by decide) rfl (by decide) (by decide+kernel) (by decide+kernel) (by decide+kernel) (by decide+kernel) (fun k hk hl W hW=>by
  match k,hk,hl with
  | 0,_,_=>exact oU (h.far hW) 4 ⟨#[120]⟩ 0 7 2 (by decide) rfl (by decide+kernel)
  | 1,_,_=>exact ze (h.far hW) 5 ⟨#[49]⟩ 0 9 (by decide) rfl)
 exact this
theorem zL {R V F gi ci ge ce:Nat} {w:World} (h:RDR R V F gi 7 ci ge ce mA [7,2,6,4,5,6,7] xy w):
    Calls Tryz.prog 102 #[.pointer (some ⟨R,0,none⟩),.int .i64 0] w (cC qz 3 1 w):=by
 have:=yF h 0 ⟨#[]⟩ 3 0 (by decide) rfl (by decide) rfl wI 1 [2,6] ⟨#[60,61]⟩ 0 1 12 2 2 [(yG,2,2),([⟨4,2,⟨#[121]⟩,⟨#[]⟩,0⟩],1,2)] (by decide+kernel) rfl (by decide+kernel) k7 (by decide) (by decide) (by decide) (by decide) (by decide) (by decide) (by decide) rfl (by decide) (by decide+kernel) (by decide+kernel) (by decide+kernel) (by decide+kernel) (fun k hk hl W hW=>by
  match k,hk,hl with
  | 0,_,_=>exact zf (h.far hW)
  | 1,_,_=>exact oU (h.far hW) 6 ⟨#[121]⟩ 0 12 2 (by decide) rfl (by decide+kernel))
 exact this
theorem zg {R V F gi ci ge ce:Nat} {w:World} (h:RDR R V F gi 4 ci ge ce i6 [4,2,3,4] xy w):
    Calls Tryz.prog 102 #[.pointer (some ⟨R,0,none⟩),.int .i64 0] w (fE R (rdC (some ⟨gi,0,none⟩) 4 ci (some ⟨ge,0,none⟩) 4 ce V F none 0 0 false) 0 8 w):=by
 have c:=h.it 0 _ (show i6[0]? =some ⟨5,⟨#[]⟩,3,0⟩ from rfl);refine oV 0 8 R V F gi (some ⟨ge,0,none⟩) none 4 ci 4 ce 0 0 0 false 0 0 ⟨#[]⟩ 3 0 w h.rd h.gl (by decide) (c 0 (by omega)) (c 1 (by omega)) (c 2 (by omega)) (c 3 (by omega)) fun W hW=>?_
 exact ye (h.far hW) 0 (by decide) (by decide) rfl wJ 1 [2,3] 0 1 [([⟨4,2,⟨#[120]⟩,⟨#[]⟩,0⟩],1,2),([⟨4,2,⟨#[121]⟩,⟨#[]⟩,0⟩],1,2)] (by decide+kernel) rfl rfl rfl (by decide+kernel) (by intro t ht x hx;simp only[List.mem_cons,List.not_mem_nil,or_false] at ht;rcases ht with rfl | rfl <;> (obtain rfl:=aG hx;decide)) (fun k hk hl W' hW'=>by
  match k,hk,hl with
  | 0,_,_=>exact oU ((h.far hW).far hW') 2 ⟨#[120]⟩ 0 3 2 (by decide) rfl (by decide+kernel)
  | 1,_,_=>exact oU ((h.far hW).far hW') 3 ⟨#[121]⟩ 0 5 2 (by decide) rfl (by decide+kernel))
end Go.Proofs.YtapdbeaoakcjeaaGreatDoor.Se

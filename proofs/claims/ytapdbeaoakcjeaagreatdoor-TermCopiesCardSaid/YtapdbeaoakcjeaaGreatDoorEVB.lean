/- fail; a product of two terms that are no numbers. -/
import Derived.Test.YtapdbeaoakcjeaaGreatDoorEUZ
set_option maxRecDepth 100000
set_option maxHeartbeats 40000000
open Go.Lib (hid)
namespace Go.Proofs.YtapdbeaoakcjeaaGreatDoor.Se
open Go.RowKit Nmx
theorem ku {w w1 w2:World} {R:Nat} (hb:Below w.heap.size w w1) (hg:w1.grownBy w2 (some R)):w.grownBy w2 (some R):=
 ⟨hg.os.trans hb.os,hg.tape.trans hb.tape,hg.output.trans hb.output,aC hb.size hg.size,fun k hk hne=>(hg.block k (ap hk hb.size) hne).trans (hb.block k hk)⟩
theorem fT {w w1 w2:World} {R S:Nat} (hg:w.grownBy w1 (some R)) (hb:Below S w1 w2) (hS:w.heap.size≤S):w.grownBy w2 (some R):=
 ⟨hb.os.trans hg.os,hb.tape.trans hg.tape,hb.output.trans hg.output,aC hg.size hb.size,fun k hk hne=>(hb.block k (ap hk hS)).trans (hg.block k hk hne)⟩
def fE (R:Nat) (O:Int→Int→Obj) (i er:Int) (w:World) (e:Ending) (w':World):Prop:=
 e=.returned (.tuple #[.agg #[.slice none 0 0,.int .i64 0,.int .i64 0],.bool false])∧w'.heap[R]? =some (O i er)∧w.grownBy w' (some R)
section
theorem wD (R V F:Nat) (ai ae ab:Option Addr) (ni ci ne ce nb cb:Nat) (cf:Bool) (p er:Int) (i e0:Int) (w:World) (hR:w.heap[R]? =some (rdC ai ni ci ae ne ce V F ab nb cb cf p er)):
    Calls Tryz.prog 142 #[.pointer (some ⟨R,0,none⟩),.int .i64 i,.int .i64 e0] w (fE R (rdC ai ni ci ae ne ce V F ab nb cb cf) i e0 w):=by
 unfold rdC at hR;have hlt:=ay hR;have r6:=ac hR 6;have r7:=ac hR 7;have z6:=aM hR 6;have z7:=aM hR 7;have HR:=hid hR;clear hR
 go_enter Tryz.func142,Tryz.ntmps142
 go_wp2
 (try simp only[Exit.inBlock,Exit.then])
 have q1:=heap_set (heap_set HR.out 6 (.int .i64 i)) 7 (.int .i64 e0);have hb1:∀b,b≠R→((w.setCell ⟨R,6,none⟩ (.int .i64 i)).setCell ⟨R,7,none⟩ (.int .i64 e0)).heap[b]? =w.heap[b]? :=fun b hb=>(aB _ _ _ _ hb).trans (aB _ _ _ _ hb)
 have hs1:((w.setCell ⟨R,6,none⟩ (.int .i64 i)).setCell ⟨R,7,none⟩ (.int .i64 e0)).heap.size=w.heap.size:=by simp
 have hz1:((w.setCell ⟨R,6,none⟩ (.int .i64 i)).setCell ⟨R,7,none⟩ (.int .i64 e0)).os=w.os∧((w.setCell ⟨R,6,none⟩ (.int .i64 i)).setCell ⟨R,7,none⟩ (.int .i64 e0)).tape=w.tape∧((w.setCell ⟨R,6,none⟩ (.int .i64 i)).setCell ⟨R,7,none⟩ (.int .i64 e0)).output=w.output:=by
  have:=((ah 0 w).setCell (p:=⟨R,6,none⟩) (aE _) (.int .i64 i)).setCell (p:=⟨R,7,none⟩) (aE _) (.int .i64 e0);exact ⟨this.os,this.tape,this.output⟩
 have hg:w.grownBy ((w.setCell ⟨R,6,none⟩ (.int .i64 i)).setCell ⟨R,7,none⟩ (.int .i64 e0)) (some R):=⟨hz1.1,hz1.2.1,hz1.2.2,by rw[hs1];exact ag _,fun k hk hne=>hb1 k (fun e=>hne (by rw[e]))⟩
 have hal:=aD ((w.setCell ⟨R,6,none⟩ (.int .i64 i)).setCell ⟨R,7,none⟩ (.int .i64 e0)) (.cells #[.slice none 0 0,.int .i64 0,.int .i64 0] 134);refine bodyPost_ret (v:=.tuple #[.agg #[.slice none 0 0,.int .i64 0,.int .i64 0],.bool false]) ?_ rfl ⟨rfl,(hal.block R (by rw[hs1];exact hlt)).trans q1,fT hg hal (by rw[hs1];exact ag _)⟩;rw[results_cell_tmp rfl]
 go_simp
theorem nP (b gk n ck j g c m:Nat) (op:Int) (w:World) (hb:w.cell? ⟨b,0,none⟩=some (.slice (some ⟨gk,0,none⟩) n ck)) (hj:j<n) (hc:w.cell? ⟨gk,j*3,none⟩=some (.slice (some ⟨g,0,none⟩) m c)) (hm:0<m) (ho:w.cell? ⟨g,0,none⟩=some (.int .i64 op)):
    Calls Tryz.prog 209 #[.int .i64 j,.pointer (some ⟨b,0,none⟩)] w fun e w'=>e=.returned (.bool (op==3))∧w'=w:=by
 have hj0:(0:Int)≤(j:Int)∧(j:Int)<(n:Int):=by omega
 have hm0:(0:Int)<(m:Int):=by omega
 go_enter Tryz.func209,Tryz.ntmps209
 go_wp2
 go_ret
 exact ⟨rfl,rfl⟩
theorem rV (R V F:Nat) (ai ae ab:Option Addr) (ni ci ne ce nb cb:Nat) (cf:Bool) (p er:Int) (i:Int) (ak:Option Addr) (gk ck:Nat) (L:List (List Nd×Int×Int)) (w:World) (hR:w.heap[R]? =some (rdC ai ni ci ae ne ce V F ab nb cb cf p er)) (hk:KSz w ak gk L) (hL:L.length=2) (hpos:∀t∈L,0<t.1.length) (hno:∀t∈L,∀x,t.1[0]? =some x→¬x.op=3):
    Calls Tryz.prog 175 #[.pointer (some ⟨R,0,none⟩),.int .i64 i,.string ⟨#[42]⟩,.slice ak 2 ck] w (fE R (rdC ai ni ci ae ne ce V F ab nb cb cf) i 8 w):=by
 have hRlt:=ay hR;obtain rfl:=hk.1 (by omega);have hl0:0<L.length:=by omega
 have hl1:1<L.length:=by omega
 have hkid:∀j (hj:j<L.length),∃g c m op,w.cell? ⟨gk,j*3,none⟩=some (.slice (some ⟨g,0,none⟩) m c)∧0<m∧w.cell? ⟨g,0,none⟩=some (.int .i64 op)∧(op==3)=false∧g<w.heap.size:=fun j hj=>by
  obtain ⟨g,c,c0,-,-,hN,hg⟩:=hk.2.2 j L[j] (aq hj);have hp:=hpos L[j] (List.getElem_mem hj);have h0:=hN 0 _ (aq hp) 0 (by omega);have hop:=hno L[j] (List.getElem_mem hj) _ (aq hp);exact ⟨g,c,_,L[j].1[0].op,c0,hp,h0,by simpa using hop,hg⟩
 obtain ⟨g0,c0,m0,op0,k0,p0,o0,n0,l0⟩:=hkid 0 hl0;obtain ⟨g1,c1,m1,op1,k1,p1,o1,n1,l1⟩:=hkid 1 hl1;have hgk:=hk.2.1;have a1:=aD w (.cells #[.slice (some ⟨gk,0,none⟩) 2 ck] 193);have b1:=heap_alloc_new w (.cells #[.slice (some ⟨gk,0,none⟩) 2 ck] 193);have e1:(w.alloc (.cells #[.slice (some ⟨gk,0,none⟩) 2 ck] 193)).heap.size=w.heap.size+1:=by simp
 have a2:=aD (w.alloc (.cells #[.slice (some ⟨gk,0,none⟩) 2 ck] 193)) (.cells #[.slice none 0 0,.int .i64 0,.int .i64 0] 134);have b2:=heap_alloc_new (w.alloc (.cells #[.slice (some ⟨gk,0,none⟩) 2 ck] 193)) (.cells #[.slice none 0 0,.int .i64 0,.int .i64 0] 134);rw[e1] at b2;have HB:=hid (a1.trans (a2.mono a1.size));have hbx:=(a2.block _ (ay b1)).trans b1;have HX:=hid b2;have q0:=ac hbx 0;have hin:∀b,b<w.heap.size→∀o,((w.alloc (.cells #[.slice (some ⟨gk,0,none⟩) 2 ck] 193)).alloc (.cells #[.slice none 0 0,.int .i64 0,.int .i64 0] 134)).cell? ⟨b,o,none⟩=w.cell? ⟨b,o,none⟩:=fun b hb o=>HB.out.cell (p:=⟨b,o,none⟩) hb
 have HI0:=hid (nP w.heap.size gk 2 ck 0 g0 c0 m0 op0 _ q0 (by omega) ((hin gk hgk _).trans k0) p0 ((hin g0 l0 _).trans o0));have HI1:=hid (nP w.heap.size gk 2 ck 1 g1 c1 m1 op1 _ q0 (by omega) ((hin gk hgk _).trans k1) p1 ((hin g1 l1 _).trans o1));have HR:=hid ((HB.out.block R hRlt).trans hR);rw[n0] at HI0;rw[n1] at HI1;clear hkid k0 k1 o0 o1 n0 n1 hin a1 a2 b1 b2 e1 q0 hbx hk hR hpos hno
 go_enter Tryz.func175,Tryz.ntmps175
 go_wp2_with fail
 generalize (w.alloc (.cells #[.slice (some ⟨gk,0,none⟩) 2 ck] 193)).alloc (.cells #[.slice none 0 0,.int .i64 0,.int .i64 0] 134)=w1 at *;refine HI0.out.mono ?_;rintro e w2 ⟨rfl,rfl⟩
 go_wp2_with fail
 refine HI1.out.mono ?_;rintro e w3 ⟨rfl,rfl⟩;have HFL:=hid (wD R V F ai ae ab ni ci ne ce nb cb cf p er i 8 _ HR.out)
 go_wp2_with fail
 refine HFL.out.mono ?_;rintro e w4 ⟨rfl,hr4,hg4⟩;have hne:some (w.heap.size+1)≠some R:=fun e=>by have:=aG e;omega
 have hx:=(hg4.block (w.heap.size+1) (ay HX.out) hne).trans HX.out;have hgg:=ku HB.out hg4;have HR4:=hid hr4;have HG4:=hid hgg;have HX4:=hid hx;generalize hS:w.heap.size=S at *;have x0:=ac hx 0;have x1:=ac hx 1;have x2:=ac hx 2;have f0:=aM hx 0;have f1:=aM hx 1;have f2:=aM hx 2;clear hr4 hg4 hgg hx HI0 HI1 HFL HX HR HB hgk l0 l1
 go_wp2
 (try simp only[Exit.inBlock,Exit.then])
 have hw4:=heap_set (heap_set (heap_set HX4.out 0 (.slice none 0 0)) 1 (.int .i64 0)) 2 (.int .i64 0);have hb4:Below (S+1) w4 (((w4.setCell ⟨S+1,0,none⟩ (.slice none 0 0)).setCell ⟨S+1,1,none⟩ (.int .i64 0)).setCell ⟨S+1,2,none⟩ (.int .i64 0)):=(((ah (S+1) w4).setCell (show S+1≤S+1 from ag _) _).setCell (show S+1≤S+1 from ag _) _).setCell (show S+1≤S+1 from ag _) _;have s0:=ac hw4 0;have s1:=ac hw4 1;have s2:=ac hw4 2;generalize ((w4.setCell ⟨S+1,0,none⟩ (.slice none 0 0)).setCell ⟨S+1,1,none⟩ (.int .i64 0)).setCell ⟨S+1,2,none⟩ (.int .i64 0)=w5 at *;refine bodyPost_ret (v:=.tuple #[.agg #[.slice none 0 0,.int .i64 0,.int .i64 0],.bool false]) ?_ rfl ⟨rfl,(hb4.block R (by omega)).trans HR4.out,fT HG4.out hb4 (by rw[hS];omega)⟩;rw[results_cell_tmp rfl]
 go_simp
end
end Go.Proofs.YtapdbeaoakcjeaaGreatDoor.Se
/- (*reader).list: the row of the operands' terms. -/
namespace Go.Proofs.YtapdbeaoakcjeaaGreatDoor.Se
open Go.RowKit Nmx
theorem nQ:(Tryz.prog.info? 134).map (fun i=>(i.zero,i.size,i.bytes))=some (some (.agg #[.slice none 0 0,.int .i64 0,.int .i64 0]),3,40):=by kernel_rfl
theorem qu (w:World):(zeroValue 117).run Tryz.prog w=.ok (.agg #[.string ⟨#[]⟩,.slice none 0 0,.int .i64 0]) w:=by kernel_rfl
theorem mz (n:Nat):(madeCells (Value.cells (.agg #[.slice none 0 0,.int .i64 0,.int .i64 0])) (n*3)).toList.length=n*3∧∀j,j<n→(madeCells (Value.cells (.agg #[.slice none 0 0,.int .i64 0,.int .i64 0])) (n*3)).toList[j*3]? =some (.slice none 0 0):=by
 refine ⟨by simp[madeCells],fun j hj=>?_⟩;have h3:j*3<n*3:=by omega
 simp[madeCells,Value.cells,h3,Nat.mul_mod_left]
structure LK (T:Nat) (w:World) (B n:Nat) (L:List (List Nd×Int×Int)) (k:Nat) (W:World):Prop where
 bel:Below T w W
 le:T≤W.heap.size
 row:∃xs:List Value,xs.length=n*3∧(∀j,j<n→∃a l c,xs[j*3]? =some (.slice a l c))∧(∀j t,j<k→L[j]? =some t→∃g c,xs[j*3]? =some (.slice (some ⟨g,0,none⟩) t.1.length c)∧xs[j*3+1]? =some (.int .i64 t.2.1)∧xs[j*3+2]? =some (.int .i64 t.2.2)∧NodesAt W g t.1∧g<W.heap.size∧g≠B)∧W.ownsRow T 134 3 (.slice (some ⟨B,0,none⟩) n n) n xs
theorem LK.far {T:Nat} {w:World} {B n:Nat} {L:List (List Nd×Int×Int)} {k:Nat} {W W':World} (h:LK T w B n L k W) (hb:Below W.heap.size W W'):LK T w B n L k W':=by
 refine ⟨h.bel.trans (hb.mono h.le),aC h.le hb.size,?_⟩;obtain ⟨xs,h1,h2,h3,h4⟩:=h.row;exact ⟨xs,h1,h2,fun j t hj ht=>let ⟨g,c,q1,q2,q3,q4,q5,q6⟩:=h3 j t hj ht;⟨g,c,q1,q2,q3,q4.below hb q5,ap q5 hb.size,q6⟩,bl h4 hb (fun g hg=>(h4.lt g hg).2)⟩
theorem LK.ne {T:Nat} {w:World} {B n:Nat} {L:List (List Nd×Int×Int)} {k:Nat} {W:World} (h:LK T w B n L k W) (hn:0<n) {g:Nat} {ts:List Nd} (hN:NodesAt W g ts) (hp:0<ts.length):g≠B:=by
 rintro rfl;obtain ⟨xs,h1,h2,h3,h4⟩:=h.row;obtain ⟨a,l,c,hx⟩:=h2 0 hn;have q:=hN 0 _ (aq hp) 0 (by omega);rw[h4.cellAt (0*5+0) (by omega),hx] at q
 simp[Nd.cells] at q
theorem LK.B {T:Nat} {w:World} {B n:Nat} {L:List (List Nd×Int×Int)} {k:Nat} {W:World} (h:LK T w B n L k W):T≤B∧B<W.heap.size∧(∀j,j<n*3→(∃u,W.cell? ⟨B,j,none⟩=some u)∧W.frozen? ⟨B,j,none⟩=false):=by
 obtain ⟨xs,h1,h2,h3,h4⟩:=h.row;exact ⟨(h4.lt B rfl).1,(h4.lt B rfl).2,fun j hj=>⟨⟨_,(h4.cellAt j hj).trans (aq (by omega))⟩,h4.frozenAt j⟩⟩
theorem LK.put {T:Nat} {w:World} {B n:Nat} {L:List (List Nd×Int×Int)} {k:Nat} {W:World} (h:LK T w B n L k W) (hk:k<n) {g c:Nat} {t:List Nd×Int×Int} (hL:L[k]? =some t) (hN:NodesAt W g t.1) (hg:g<W.heap.size) (hp:0<t.1.length):
    LK T w B n L (k+1) (((W.setCell ⟨B,k*3,none⟩ (.slice (some ⟨g,0,none⟩) t.1.length c)).setCell ⟨B,k*3+1,none⟩ (.int .i64 t.2.1)).setCell ⟨B,k*3+2,none⟩ (.int .i64 t.2.2)):=by
 have hgB:=h.ne (by omega) hN hp;have hTB:=h.B.1;have hb1:∀b,b≠B→(((W.setCell ⟨B,k*3,none⟩ (.slice (some ⟨g,0,none⟩) t.1.length c)).setCell ⟨B,k*3+1,none⟩ (.int .i64 t.2.1)).setCell ⟨B,k*3+2,none⟩ (.int .i64 t.2.2)).heap[b]? =W.heap[b]? :=fun b hb=>(aB _ _ _ _ hb).trans ((aB _ _ _ _ hb).trans (aB _ _ _ _ hb))
 have hs1:(((W.setCell ⟨B,k*3,none⟩ (.slice (some ⟨g,0,none⟩) t.1.length c)).setCell ⟨B,k*3+1,none⟩ (.int .i64 t.2.1)).setCell ⟨B,k*3+2,none⟩ (.int .i64 t.2.2)).heap.size=W.heap.size:=by simp
 refine ⟨((h.bel.setCell (show T≤B from hTB) _).setCell (show T≤B from hTB) _).setCell (show T≤B from hTB) _,by rw[hs1];exact h.le,?_⟩;obtain ⟨xs,h1,h2,h3,h4⟩:=h.row;refine ⟨((xs.set (k*3) (.slice (some ⟨g,0,none⟩) t.1.length c)).set (k*3+1) (.int .i64 t.2.1)).set (k*3+2) (.int .i64 t.2.2),by simp[h1],fun j hj=>?_,fun j u hj hu=>?_,(((h4.stored (k*3) (.slice (some ⟨g,0,none⟩) t.1.length c)).1.stored (k*3+1) (.int .i64 t.2.1)).1.stored (k*3+2) (.int .i64 t.2.2)).1⟩
 · rw[List.getElem?_set_ne (by omega),List.getElem?_set_ne (by omega)]
   by_cases hjk:j=k
   · subst hjk;exact ⟨_,_,_,List.getElem?_set_self (by omega)⟩
   · rw[List.getElem?_set_ne (by omega)];exact h2 j hj
 · by_cases hjk:j=k
   · subst hjk;obtain rfl:t=u:=aG (hL.symm.trans hu);refine ⟨g,c,?_,?_,?_,fun i x hx q hq=>(World.cell?_of_block (hb1 g hgB)).trans (hN i x hx q hq),by rw[hs1];exact hg,hgB⟩
     · rw[List.getElem?_set_ne (by omega),List.getElem?_set_ne (by omega),List.getElem?_set_self (by omega)]
     · rw[List.getElem?_set_ne (by omega),List.getElem?_set_self (by simp;omega)]
     · rw[List.getElem?_set_self (by simp;omega)]
   · obtain ⟨g',c',q1,q2,q3,q4,q5,q6⟩:=h3 j u (by omega) hu;refine ⟨g',c',?_,?_,?_,fun i x hx q hq=>(World.cell?_of_block (hb1 g' q6)).trans (q4 i x hx q hq),by rw[hs1];exact q5,q6⟩
     · rw[List.getElem?_set_ne (by omega),List.getElem?_set_ne (by omega),List.getElem?_set_ne (by omega)];exact q1
     · rw[List.getElem?_set_ne (by omega),List.getElem?_set_ne (by omega),List.getElem?_set_ne (by omega)];exact q2
     · rw[List.getElem?_set_ne (by omega),List.getElem?_set_ne (by omega),List.getElem?_set_ne (by omega)];exact q3
theorem LK.ksz {T:Nat} {w:World} {B n:Nat} {L:List (List Nd×Int×Int)} {W:World} (h:LK T w B n L n W) (hL:L.length=n):KSz W (some ⟨B,0,none⟩) B L:=by
 obtain ⟨xs,h1,h2,h3,h4⟩:=h.row;refine ⟨fun _=>rfl,(h4.lt B rfl).2,fun j t ht=>?_⟩;have hj:j<n:=by have:=(List.getElem?_eq_some_iff.1 ht).1;omega
 obtain ⟨g,c,q1,q2,q3,q4,q5,-⟩:=h3 j t hj ht;exact ⟨g,c,(h4.cellAt _ (by omega)).trans q1,(h4.cellAt _ (by omega)).trans q2,(h4.cellAt _ (by omega)).trans q3,q4,q5⟩
end Go.Proofs.YtapdbeaoakcjeaaGreatDoor.Se

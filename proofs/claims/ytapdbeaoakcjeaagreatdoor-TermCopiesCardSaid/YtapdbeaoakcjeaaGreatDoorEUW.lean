/- What a reader hands back; symbols. -/
import Derived.Test.YtapdbeaoakcjeaaGreatDoorEUT
import Derived.Test.YtapdbeaoakcjeaaGreatDoorEUP
set_option maxRecDepth 100000
set_option maxHeartbeats 40000000
open Go.Lib (hid)
namespace Go.Proofs.YtapdbeaoakcjeaaGreatDoor.Se
open Go.RowKit Nmx
def Sz (w:World) (v:Value) (ts:List Nd) (depth sort:Int):Prop:=
 ∃g cap,v=.agg #[.slice (some ⟨g,0,none⟩) ts.length cap,.int .i64 depth,.int .i64 sort]∧NodesAt w g ts∧g<w.heap.size∧0<ts.length
theorem Sz.far {w w':World} {v:Value} {ts:List Nd} {depth sort:Int} (h:Sz w v ts depth sort) (hb:Below w.heap.size w w'):Sz w' v ts depth sort:=
 let ⟨g,c,h1,h2,h3,h4⟩:=h;⟨g,c,h1,h2.below hb h3,ap h3 hb.size,h4⟩
def cC (ts:List Nd) (depth sort:Int) (w:World) (e:Ending) (w':World):Prop:=
 ∃v,e=.returned (.tuple #[v,.bool true])∧Sz w' v ts depth sort∧Below w.heap.size w w'
def rdC (ai:Option Addr) (ni ci:Nat) (ae:Option Addr) (ne ce V F:Nat) (ab:Option Addr) (nb cb:Nat) (cf:Bool) (p er:Int):Obj:=
 .cells #[.slice ai ni ci,.slice ae ne ce,.map (some V),.map (some F),.slice ab nb cb,.bool cf,.int .i64 p,.int .i64 er] 130 (0,0)
theorem kr {w:World} {g:Nat} {x:Nd} (h:w.heap[g]? =some (.cells #[.int .i64 x.op,.int .i64 x.sort,.string x.name,.string x.num,.int .i64 x.kids] 34 (0,0))):NodesAt w g [x]:=by
 intro i y hy j hj;cases i with
 | succ i=>cases hy
 | zero=>
   obtain rfl:=aG hy;rw[Nat.zero_mul,Nat.zero_add,ac h j]
   simp[Nd.cells]
section
theorem rT (R V F:Nat) (ai ae ab:Option Addr) (ni ci ne ce cb:Nat) (cf:Bool) (p er i:Int) (s:ByteArray) (vs:List (ByteArray×Int)) (sort:Int) (w:World)
    (hR:w.heap[R]? =some (rdC ai ni ci ae ne ce V F ab 0 cb cf p er)) (hm:MapS w V (asI vs)) (hl:bh s vs=some sort):
    Calls Tryz.prog 140 #[.pointer (some ⟨R,0,none⟩),.int .i64 i,.string s] w (cC [⟨4,sort,s,⟨#[]⟩,0⟩] 1 sort w):=by
 unfold rdC at hR;have hlt:=ay hR;have r2:=ac hR 2;have r4:=ac hR 4;obtain ⟨jf,hjf⟩:=d8 0 hl;have HF:=hid hjf;have HM:=hid hm;have hw0:=heap_alloc_new w (.cells #[.slice none 0 0,.int .i64 0,.int .i64 0] 134);have HB:=hid (aD w (.cells #[.slice none 0 0,.int .i64 0,.int .i64 0] 134));have HW0:=hid hw0;clear hjf hl hm hw0 hR
 go_enter Tryz.func140,Tryz.ntmps140
 go_wp2
 go_loopw [8] (fun k wr=>k=.int .i64 (-1)∧wr=w.alloc (.cells #[.slice none 0 0,.int .i64 0,.int .i64 0] 134)) (fun _ _=>0)
 case atStart=>exact ⟨rfl,rfl⟩
 case round=>
  obtain ⟨rfl,rfl⟩:=hrel
  go_wp2_with (at_lookup;go_loud (refine bD rfl 9 3 112 _ _ rfl Tryz.underlying9 Tryz.underlying112 V _ rfl (HM.out.far HB.out) s rfl jf (.int .i64 sort) HF.out ?_))
  refine (qp _ _ _).mono ?_;rintro e w2 ⟨rfl,hg,hb⟩;have hb2:=HB.out.trans (hb.mono HB.out.size);generalize w.alloc (.cells #[.slice none 0 0,.int .i64 0,.int .i64 0] 134)=w1 at *;have hS1:w.heap.size<w1.heap.size:=ay HW0.out;have hw2:=(hb.block _ hS1).trans HW0.out;have g0:=ac hg 0;have g1:=ac hg 1;have hlg:=ay hg;generalize w1.heap.size=G at *;have HLF:=hid (qt 4 sort G 1 1 w2 (.inr (.inr (.inr rfl))) (by omega) hlg g0 g1);have HG:=hid hg;have HB2:=hid hb2;have HW2:=hid hw2;clear hb hb2 hg hw2 g0 g1 r2 r4 HF
  go_wp2_with fail
  refine HLF.out.mono ?_;rintro e w3 ⟨rfl,hb3⟩;have hS2:=ay HW2.out;have hw3:=(hb3.block _ hS2).trans HW2.out;have hg3:=(hb3.block _ hlg).trans HG.out;have hlg3:=ap hlg hb3.size;have HB3:=hid (HB2.out.trans (hb3.mono HB2.out.size));generalize hS:w.heap.size=S at *;have HS:=hid hS;have HW3:=hid hw3;have HG3:=hid hg3;have z0:=aM hw3 0;have z1:=aM hw3 1;have z2:=aM hw3 2;have d0:=ac hw3 0;have d1:=ac hw3 1;have d2:=ac hw3 2;have e4:lsF 4 sort=sort:=rfl;rw[e4];clear hS hb3 hw3 hg3 HLF HB2 HW2 HG HM HB HW0
  go_wp2
  (try simp only[Exit.inBlock,Exit.then])
  have hw4:=heap_set (heap_set (heap_set HW3.out 0 (.slice (some ⟨G,0,none⟩) 1 1)) 1 (.int .i64 1)) 2 (.int .i64 sort);have hbb:Below S w (((w3.setCell ⟨S,0,none⟩ (.slice (some ⟨G,0,none⟩) 1 1)).setCell ⟨S,1,none⟩ (.int .i64 1)).setCell ⟨S,2,none⟩ (.int .i64 sort)):=((HB3.out.setCell (show S≤S from ag _) _).setCell (show S≤S from ag _) _).setCell (show S≤S from ag _) _;have s0:=ac hw4 0;have s1:=ac hw4 1;have s2:=ac hw4 2;have hgS:G≠S:=by omega
  have hg5:(((w3.setCell ⟨S,0,none⟩ (.slice (some ⟨G,0,none⟩) 1 1)).setCell ⟨S,1,none⟩ (.int .i64 1)).setCell ⟨S,2,none⟩ (.int .i64 sort)).heap[G]? =some (.cells #[.int .i64 4,.int .i64 sort,.string s,.string ⟨#[]⟩,.int .i64 0] 34 (0,0)):=
   (aB _ _ _ _ hgS).trans ((aB _ _ _ _ hgS).trans ((aB _ _ _ _ hgS).trans HG3.out))
  generalize ((w3.setCell ⟨S,0,none⟩ (.slice (some ⟨G,0,none⟩) 1 1)).setCell ⟨S,1,none⟩ (.int .i64 1)).setCell ⟨S,2,none⟩ (.int .i64 sort)=w5 at *;refine bodyPost_ret (v:=.tuple #[.agg #[.slice (some ⟨G,0,none⟩) 1 1,.int .i64 1,.int .i64 sort],.bool true]) ?_ rfl ⟨_,rfl,⟨G,1,rfl,kr (x:=⟨4,sort,s,⟨#[]⟩,0⟩) hg5,ay hg5,by simp⟩,by rw[HS.out];exact hbb⟩;rw[results_cell_tmp rfl]
  go_simp
end
end Go.Proofs.YtapdbeaoakcjeaaGreatDoor.Se
/- read at a numeral and at a symbol. -/
namespace Go.Proofs.YtapdbeaoakcjeaaGreatDoor.Se
open Go.RowKit Nmx
section
theorem wu (R V F gi:Nat) (ae ab:Option Addr) (ni ci ne ce nb cb i:Nat) (cf:Bool) (p er:Int) (tx:ByteArray) (kd ps:Int) (w:World)
    (hR:w.heap[R]? =some (rdC (some ⟨gi,0,none⟩) ni ci ae ne ce V F ab nb cb cf p er)) (hgi:gi<w.heap.size) (hi:i<ni) (c0:w.cell? ⟨gi,i*4,none⟩=some (.int .i64 2)) (c1:w.cell? ⟨gi,i*4+1,none⟩=some (.string tx)) (c2:w.cell? ⟨gi,i*4+2,none⟩=some (.int .i64 kd)) (c3:w.cell? ⟨gi,i*4+3,none⟩=some (.int .i64 ps)):
    Calls Tryz.prog 102 #[.pointer (some ⟨R,0,none⟩),.int .i64 i] w (cC [⟨3,2,⟨#[]⟩,tx,0⟩] 1 2 w):=by
 have hR0:=hR;unfold rdC at hR;have hlt:=ay hR;have r0:=ac hR 0;have hw0:=heap_alloc_new w (.cells #[.slice none 0 0,.int .i64 0,.int .i64 0] 134);have h1:=aD w (.cells #[.slice none 0 0,.int .i64 0,.int .i64 0] 134);have h2:=aD (w.alloc (.cells #[.slice none 0 0,.int .i64 0,.int .i64 0] 134)) (.cells #[.int .i64 2,.string tx,.int .i64 kd,.int .i64 ps] 88);have hS0:=ay hw0;have HB:=hid (h1.trans (h2.mono h1.size));have HW0:=hid ((h2.block _ hS0).trans hw0);have HR:=hid ((h1.trans (h2.mono h1.size)).block _ hlt |>.trans hR0);clear h1 h2 hw0 hS0 hR hR0
 go_enter Tryz.func102,Tryz.ntmps102
 go_wp2_with fail
 refine (qo _ _ _).mono ?_;rintro e w2 ⟨rfl,hg,hb⟩;have hb2:=HB.out.trans (hb.mono HB.out.size);generalize (w.alloc (.cells #[.slice none 0 0,.int .i64 0,.int .i64 0] 134)).alloc (.cells #[.int .i64 2,.string tx,.int .i64 kd,.int .i64 ps] 88)=w1 at *;have hS1:w.heap.size<w1.heap.size:=ay HW0.out;have hw2:=(hb.block _ hS1).trans HW0.out;have g0:=ac hg 0;have g1:=ac hg 1;have hlg:=ay hg;generalize w1.heap.size=G at *;have HLF:=hid (qt 3 2 G 1 1 w2 (.inr (.inr (.inl rfl))) (by omega) hlg g0 g1);have HG:=hid hg;have HB2:=hid hb2;have HW2:=hid hw2;clear hb hb2 hg hw2 g0 g1 r0 c0 c1 c2 c3
 go_wp2_with fail
 refine HLF.out.mono ?_;rintro e w3 ⟨rfl,hb3⟩;have hS2:=ay HW2.out;have hw3:=(hb3.block _ hS2).trans HW2.out;have hg3:=(hb3.block _ hlg).trans HG.out;have HB3:=hid (HB2.out.trans (hb3.mono HB2.out.size));have HG3:=hid hg3;have e4:lsF 3 2=2:=rfl;rw[e4];clear hb3 hg3 HLF HB2 HW2 HG HB HW0 HR;generalize hS:w.heap.size=S at *;have HS:=hid hS;have z0:=aM hw3 0;have z1:=aM hw3 1;have z2:=aM hw3 2;have d0:=ac hw3 0;have d1:=ac hw3 1;have d2:=ac hw3 2;have HW3:=hid hw3;clear hS hw3
 go_wp2
 (try simp only[Exit.inBlock,Exit.then])
 have hw4:=heap_set (heap_set (heap_set HW3.out 0 (.slice (some ⟨G,0,none⟩) 1 1)) 1 (.int .i64 1)) 2 (.int .i64 2);have hbb:Below S w (((w3.setCell ⟨S,0,none⟩ (.slice (some ⟨G,0,none⟩) 1 1)).setCell ⟨S,1,none⟩ (.int .i64 1)).setCell ⟨S,2,none⟩ (.int .i64 2)):=((HB3.out.setCell (show S≤S from ag _) _).setCell (show S≤S from ag _) _).setCell (show S≤S from ag _) _;have s0:=ac hw4 0;have s1:=ac hw4 1;have s2:=ac hw4 2;have hgS:G≠S:=by omega
 have hg5:(((w3.setCell ⟨S,0,none⟩ (.slice (some ⟨G,0,none⟩) 1 1)).setCell ⟨S,1,none⟩ (.int .i64 1)).setCell ⟨S,2,none⟩ (.int .i64 2)).heap[G]? =some (.cells #[.int .i64 3,.int .i64 2,.string ⟨#[]⟩,.string tx,.int .i64 0] 34 (0,0)):=
  (aB _ _ _ _ hgS).trans ((aB _ _ _ _ hgS).trans ((aB _ _ _ _ hgS).trans HG3.out))
 generalize ((w3.setCell ⟨S,0,none⟩ (.slice (some ⟨G,0,none⟩) 1 1)).setCell ⟨S,1,none⟩ (.int .i64 1)).setCell ⟨S,2,none⟩ (.int .i64 2)=w5 at *;refine bodyPost_ret (v:=.tuple #[.agg #[.slice (some ⟨G,0,none⟩) 1 1,.int .i64 1,.int .i64 2],.bool true]) ?_ rfl ⟨_,rfl,⟨G,1,rfl,kr (x:=⟨3,2,⟨#[]⟩,tx,0⟩) hg5,ay hg5,by simp⟩,by rw[HS.out];exact hbb⟩;rw[results_cell_tmp rfl]
 go_simp
theorem ww (ts:List Nd) (depth sort:Int) (R V F gi:Nat) (ae ab:Option Addr) (ni ci ne ce nb cb i:Nat) (cf:Bool) (p er:Int) (tx:ByteArray) (kd ps:Int) (w:World)
    (hR:w.heap[R]? =some (rdC (some ⟨gi,0,none⟩) ni ci ae ne ce V F ab nb cb cf p er)) (hgi:gi<w.heap.size) (hi:i<ni) (c0:w.cell? ⟨gi,i*4,none⟩=some (.int .i64 1)) (c1:w.cell? ⟨gi,i*4+1,none⟩=some (.string tx)) (c2:w.cell? ⟨gi,i*4+2,none⟩=some (.int .i64 kd)) (c3:w.cell? ⟨gi,i*4+3,none⟩=some (.int .i64 ps))
    (hcall:∀W,Below w.heap.size w W→Calls Tryz.prog 140 #[.pointer (some ⟨R,0,none⟩),.int .i64 i,.string tx] W (cC ts depth sort W)):
    Calls Tryz.prog 102 #[.pointer (some ⟨R,0,none⟩),.int .i64 i] w (cC ts depth sort w):=by
 have hR0:=hR;unfold rdC at hR;have hlt:=ay hR;have r0:=ac hR 0;have hw0:=heap_alloc_new w (.cells #[.slice none 0 0,.int .i64 0,.int .i64 0] 134);have h1:=aD w (.cells #[.slice none 0 0,.int .i64 0,.int .i64 0] 134);have h2:=aD (w.alloc (.cells #[.slice none 0 0,.int .i64 0,.int .i64 0] 134)) (.cells #[.int .i64 1,.string tx,.int .i64 kd,.int .i64 ps] 88);have hS0:=ay hw0;have HB:=hid (h1.trans (h2.mono h1.size));have HW0:=hid ((h2.block _ hS0).trans hw0);have HR:=hid ((h1.trans (h2.mono h1.size)).block _ hlt |>.trans hR0);clear h1 h2 hw0 hS0 hR hR0;have HCL:=hid (hcall _ HB.out);clear hcall
 go_enter Tryz.func102,Tryz.ntmps102
 go_wp2_with fail
 refine HCL.out.mono ?_;rintro e w3 ⟨v,rfl,⟨G,cG,rfl,hN,hlG,hts⟩,hb⟩;have HB3:=hid (HB.out.trans (hb.mono HB.out.size));have hS1:w.heap.size<((w.alloc (.cells #[.slice none 0 0,.int .i64 0,.int .i64 0] 134)).alloc (.cells #[.int .i64 1,.string tx,.int .i64 kd,.int .i64 ps] 88)).heap.size:=ay HW0.out;have hw3:=(hb.block _ hS1).trans HW0.out;clear hb hS1 r0 c0 c1 c2 c3 HCL HB HW0 HR;generalize hS:w.heap.size=S at *;have HS:=hid hS;have z0:=aM hw3 0;have z1:=aM hw3 1;have z2:=aM hw3 2;have d0:=ac hw3 0;have d1:=ac hw3 1;have d2:=ac hw3 2;have HW3:=hid hw3;clear hS hw3;have HN:=hid hN;clear hN;obtain ⟨n,hn⟩:∃n,ts.length=n:=⟨_,rfl⟩
 rw[hn];have HNL:=hid hn;clear hn
 go_wp2
 (try simp only[Exit.inBlock,Exit.then])
 have hw4:=heap_set (heap_set (heap_set HW3.out 0 (.slice (some ⟨G,0,none⟩) n cG)) 1 (.int .i64 depth)) 2 (.int .i64 sort);have hbb:Below S w (((w3.setCell ⟨S,0,none⟩ (.slice (some ⟨G,0,none⟩) n cG)).setCell ⟨S,1,none⟩ (.int .i64 depth)).setCell ⟨S,2,none⟩ (.int .i64 sort)):=((HB3.out.setCell (show S≤S from ag _) _).setCell (show S≤S from ag _) _).setCell (show S≤S from ag _) _;have s0:=ac hw4 0;have s1:=ac hw4 1;have s2:=ac hw4 2
 have hgS:G≠S:=by
  rintro rfl;obtain ⟨x,hx⟩:∃x,ts[0]? =some x:=⟨_,aq hts⟩
  have h0:=HN.out 0 x hx 0 (by omega);rw[show (0*5+0)=0 by omega,d0] at h0
  simp[Nd.cells] at h0
 have hblk:∀b,b≠S→(((w3.setCell ⟨S,0,none⟩ (.slice (some ⟨G,0,none⟩) n cG)).setCell ⟨S,1,none⟩ (.int .i64 depth)).setCell ⟨S,2,none⟩ (.int .i64 sort)).heap[b]? =w3.heap[b]? :=fun b hb=>
  (aB _ _ _ _ hb).trans ((aB _ _ _ _ hb).trans (aB _ _ _ _ hb))
 have hsz:(((w3.setCell ⟨S,0,none⟩ (.slice (some ⟨G,0,none⟩) n cG)).setCell ⟨S,1,none⟩ (.int .i64 depth)).setCell ⟨S,2,none⟩ (.int .i64 sort)).heap.size=w3.heap.size:=by simp
 generalize ((w3.setCell ⟨S,0,none⟩ (.slice (some ⟨G,0,none⟩) n cG)).setCell ⟨S,1,none⟩ (.int .i64 depth)).setCell ⟨S,2,none⟩ (.int .i64 sort)=w5 at *;refine bodyPost_ret (v:=.tuple #[.agg #[.slice (some ⟨G,0,none⟩) n cG,.int .i64 depth,.int .i64 sort],.bool true]) ?_ rfl ⟨_,rfl,⟨G,cG,by rw[HNL.out],fun i x hx j hj=>(World.cell?_of_block (hblk G hgS)).trans (HN.out i x hx j hj),by rw[hsz];exact hlG,hts⟩,by rw[HS.out];exact hbb⟩;rw[results_cell_tmp rfl]
 go_simp
theorem uG (ts:List Nd) (depth sort:Int) (R V F gi:Nat) (ae ab:Option Addr) (ni ci ne ce nb cb i:Nat) (cf:Bool) (p er:Int) (tx:ByteArray) (kd ps:Int) (w:World)
    (hR:w.heap[R]? =some (rdC (some ⟨gi,0,none⟩) ni ci ae ne ce V F ab nb cb cf p er)) (hgi:gi<w.heap.size) (hi:i<ni) (c0:w.cell? ⟨gi,i*4,none⟩=some (.int .i64 5)) (c1:w.cell? ⟨gi,i*4+1,none⟩=some (.string tx)) (c2:w.cell? ⟨gi,i*4+2,none⟩=some (.int .i64 kd)) (c3:w.cell? ⟨gi,i*4+3,none⟩=some (.int .i64 ps))
    (hcall:∀W,Below w.heap.size w W→Calls Tryz.prog 141 #[.pointer (some ⟨R,0,none⟩),.int .i64 i] W (cC ts depth sort W)):
    Calls Tryz.prog 102 #[.pointer (some ⟨R,0,none⟩),.int .i64 i] w (cC ts depth sort w):=by
 have hR0:=hR;unfold rdC at hR;have hlt:=ay hR;have r0:=ac hR 0;have hw0:=heap_alloc_new w (.cells #[.slice none 0 0,.int .i64 0,.int .i64 0] 134);have h1:=aD w (.cells #[.slice none 0 0,.int .i64 0,.int .i64 0] 134);have h2:=aD (w.alloc (.cells #[.slice none 0 0,.int .i64 0,.int .i64 0] 134)) (.cells #[.int .i64 5,.string tx,.int .i64 kd,.int .i64 ps] 88);have hS0:=ay hw0;have HB:=hid (h1.trans (h2.mono h1.size));have HW0:=hid ((h2.block _ hS0).trans hw0);have HR:=hid ((h1.trans (h2.mono h1.size)).block _ hlt |>.trans hR0);clear h1 h2 hw0 hS0 hR hR0;have HCL:=hid (hcall _ HB.out);clear hcall
 go_enter Tryz.func102,Tryz.ntmps102
 go_wp2_with fail
 refine HCL.out.mono ?_;rintro e w3 ⟨v,rfl,⟨G,cG,rfl,hN,hlG,hts⟩,hb⟩;have HB3:=hid (HB.out.trans (hb.mono HB.out.size));have hS1:w.heap.size<((w.alloc (.cells #[.slice none 0 0,.int .i64 0,.int .i64 0] 134)).alloc (.cells #[.int .i64 5,.string tx,.int .i64 kd,.int .i64 ps] 88)).heap.size:=ay HW0.out;have hw3:=(hb.block _ hS1).trans HW0.out;clear hb hS1 r0 c0 c1 c2 c3 HCL HB HW0 HR;generalize hS:w.heap.size=S at *;have HS:=hid hS;have z0:=aM hw3 0;have z1:=aM hw3 1;have z2:=aM hw3 2;have d0:=ac hw3 0;have d1:=ac hw3 1;have d2:=ac hw3 2;have HW3:=hid hw3;clear hS hw3;have HN:=hid hN;clear hN;obtain ⟨n,hn⟩:∃n,ts.length=n:=⟨_,rfl⟩
 rw[hn];have HNL:=hid hn;clear hn
 go_wp2
 (try simp only[Exit.inBlock,Exit.then])
 have hw4:=heap_set (heap_set (heap_set HW3.out 0 (.slice (some ⟨G,0,none⟩) n cG)) 1 (.int .i64 depth)) 2 (.int .i64 sort);have hbb:Below S w (((w3.setCell ⟨S,0,none⟩ (.slice (some ⟨G,0,none⟩) n cG)).setCell ⟨S,1,none⟩ (.int .i64 depth)).setCell ⟨S,2,none⟩ (.int .i64 sort)):=((HB3.out.setCell (show S≤S from ag _) _).setCell (show S≤S from ag _) _).setCell (show S≤S from ag _) _;have s0:=ac hw4 0;have s1:=ac hw4 1;have s2:=ac hw4 2
 have hgS:G≠S:=by
  rintro rfl;obtain ⟨x,hx⟩:∃x,ts[0]? =some x:=⟨_,aq hts⟩
  have h0:=HN.out 0 x hx 0 (by omega);rw[show (0*5+0)=0 by omega,d0] at h0
  simp[Nd.cells] at h0
 have hblk:∀b,b≠S→(((w3.setCell ⟨S,0,none⟩ (.slice (some ⟨G,0,none⟩) n cG)).setCell ⟨S,1,none⟩ (.int .i64 depth)).setCell ⟨S,2,none⟩ (.int .i64 sort)).heap[b]? =w3.heap[b]? :=fun b hb=>
  (aB _ _ _ _ hb).trans ((aB _ _ _ _ hb).trans (aB _ _ _ _ hb))
 have hsz:(((w3.setCell ⟨S,0,none⟩ (.slice (some ⟨G,0,none⟩) n cG)).setCell ⟨S,1,none⟩ (.int .i64 depth)).setCell ⟨S,2,none⟩ (.int .i64 sort)).heap.size=w3.heap.size:=by simp
 generalize ((w3.setCell ⟨S,0,none⟩ (.slice (some ⟨G,0,none⟩) n cG)).setCell ⟨S,1,none⟩ (.int .i64 depth)).setCell ⟨S,2,none⟩ (.int .i64 sort)=w5 at *;refine bodyPost_ret (v:=.tuple #[.agg #[.slice (some ⟨G,0,none⟩) n cG,.int .i64 depth,.int .i64 sort],.bool true]) ?_ rfl ⟨_,rfl,⟨G,cG,by rw[HNL.out],fun i x hx j hj=>(World.cell?_of_block (hblk G hgS)).trans (HN.out i x hx j hj),by rw[hsz];exact hlG,hts⟩,by rw[HS.out];exact hbb⟩;rw[results_cell_tmp rfl]
 go_simp
end
end Go.Proofs.YtapdbeaoakcjeaaGreatDoor.Se

/- The generator's Small; ValueTerm behind it. -/
import Derived.Test.YtapdbeaoakcjeaaGreatDoorEWN
set_option maxRecDepth 100000
set_option maxHeartbeats 40000000
open Go.Lib (hid)
namespace Go.Proofs.YtapdbeaoakcjeaaGreatDoor.Se
open Go.RowKit Nmx
def Wh (q:Rat):Prop:=DS 26 q∧q.den=1
theorem ky (z:Int) (h:z.natAbs<100):Wh (z:Rat):=⟨(DS.int (d:=2) (by show _<100;exact h)).mono (by omega),rfl⟩
def SmV (C:Nat) (sort:Int) (v:Value) (W:World):Prop:=
 (sort=1∧∃b,v=cX 1 b ⟨#[]⟩ noS noS)∨((sort=2∨sort=3)∧∃q:Rat,Wh q∧v=cX sort false (TX q) noS noS)∨
 (sort=4∧∃(z y x:Rat) (k u:Value),Wh z∧Wh y∧Wh x∧v=cX 4 false (TX z) k u∧SKV C (TX z) (TX y) (TX x) k u W)
theorem VG2.mono {w:World} {D D' Z Z':Nat} {s:Int} {e:Ending} {w':World} (h:VG2 w D Z s e w') (hd:D≤D') (hz:Z≤Z'):VG2 w D' Z' s e w':=
 let ⟨g,c,ts,h1,h2,h3,h4,h5,h6⟩:=h;⟨g,c,ts,h1,h2,h3,h4,h5.mono hd hz,h6⟩
theorem qL {C:Nat} {sort:Int} {v:Value} {w:World} (h:SmV C sort v w) (_:0<w.heap.size):Calls Tryz.prog 60 #[v] w (VG2 w 3 7 sort):=by
 rcases h with ⟨rfl,b,rfl⟩ | ⟨hs,q,hq,rfl⟩ | ⟨rfl,z,y,x,k,u,hz,hy,hx,rfl,hk⟩
 · exact (yl b w).mono fun _ _ h=>h.mono (by decide) (by decide)
 · exact (zp sort q w hq.1 (by rcases hs with h | h;exact .inr ⟨h,hq.2⟩;exact .inl h)).mono fun _ _ h=>h.mono (by decide) (by decide)
 · rcases hk with ⟨rfl,rfl⟩ | ⟨hne,⟨B,c,rfl,hb,hl,-⟩,⟨B',c',rfl,hb',hl',-⟩⟩
   · exact ym z w hz.1 hz.2
   · exact yn z y x B c B' c' w hz.1 hz.2 hy.1 hy.2 hx.1 hx.2 hne hb hb' hl hl'
def ChR (C:Nat) (ao:Option Addr) (n cap:Nat) (w w':World):Prop:=w.grownBy w' (some C)∧(Ch C ao n cap w→Ch C ao n cap w')
theorem ChR.refl {C:Nat} {ao:Option Addr} {n cap:Nat} (w:World):ChR C ao n cap w w:=⟨dc w _,id⟩
theorem yJ (C:Nat) (ao:Option Addr) (n cap:Nat):RelOk (ChR C ao n cap):=⟨fun w=>ChR.refl w,fun _ _ h=>h.1.size⟩
theorem ChR.of {C:Nat} {ao:Option Addr} {n cap:Nat} {w w':World} (hb:Below w.heap.size w w'):ChR C ao n cap w w':=⟨dZ (cL hb),fun h=>h.call hb⟩
theorem SK.grown {R C:Nat} {key:ByteArray} {u:Value} {W W':World} (h:SK R key u W) (hg:W.grownBy W' (some C)) (hC:C≤R):SK R key u W':=
 let ⟨B,c,h1,h2,h3,h4⟩:=h;⟨B,c,h1,(World.cell?_of_block (hg.block B h3 (fun e=>by have:=aG e;omega))).trans h2,ap h3 hg.size,h4⟩
theorem SKV.grown {R C:Nat} {num key val:ByteArray} {k v:Value} {W W':World} (h:SKV R num key val k v W) (hg:W.grownBy W' (some C)) (hC:C≤R):SKV R num key val k v W':=by
 rcases h with h | ⟨h1,h2,h3⟩
 · exact .inl h
 · exact .inr ⟨h1,h2.grown hg hC,h3.grown hg hC⟩
structure SM (S R C:Nat) (ao:Option Addr) (n cap:Nat) (tz:ByteArray) (k v:Value) (w W:World):Prop where
 b4:W.heap[S]? =some (.cells #[.int .i64 0,.bool false,.string ⟨#[]⟩,.slice none 0 0,.slice none 0 0] 98 (0,0))
 b5:W.heap[R]? =some (.cells #[.int .i64 4,.bool false,.string tz,k,v] 98 (0,0))
 ch:Ch C ao n cap W
 gr:w.grownBy W (some C)
 lt:S<R
 ltC:C<S
 ws:w.heap.size≤S
theorem SM.rel {S R C:Nat} {ao:Option Addr} {n cap:Nat} {tz:ByteArray} {k v:Value} {w W W':World} (h:SM S R C ao n cap tz k v w W) (hr:ChR C ao n cap W W'):SM S R C ao n cap tz k v w W':=
 ⟨(hr.1.block S (ay h.b4) (fun e=>by have:=aG e;have:=h.ltC;omega)).trans h.b4,(hr.1.block R (ay h.b5) (fun e=>by have:=aG e;have:=h.ltC;have:=h.lt;omega)).trans h.b5,hr.2 h.ch,grown_trans h.gr hr.1,h.lt,h.ltC,h.ws⟩
theorem bQ {C:Nat} {ao:Option Addr} {n cap:Nat} {w:World} (h:Ch C ao n cap w) {q:Nat} (hq:C<q) (j:Nat) (x:Value):Ch C ao n cap (w.setCell ⟨q,j,none⟩ x):=h.grown (iK (dc w (some q)) j x) (fun k e=>by cases e;exact hq)
theorem bg {w W:World} {C:Nat} (h:w.grownBy W (some C)) {q:Nat} (hq:w.heap.size≤q) (j:Nat) (x:Value):w.grownBy (W.setCell ⟨q,j,none⟩ x) (some C):=
 ⟨h.os,h.tape,h.output,by simpa [World.setCell] using h.size,fun k hk hne=>(aB _ _ _ _ (by show k≠q;omega)).trans (h.block k hk hne)⟩
theorem SM.set {S R C:Nat} {ao:Option Addr} {n cap:Nat} {tz:ByteArray} {k v:Value} {w W:World} (h:SM S R C ao n cap tz k v w W) (j:Nat) (x k' v':Value) (he:(#[.int .i64 4,.bool false,.string tz,k,v]:Array Value).setIfInBounds j x=#[.int .i64 4,.bool false,.string tz,k',v']):SM S R C ao n cap tz k' v' w (W.setCell ⟨R,j,none⟩ x):=by
 have h1:=h.lt;have h2:=h.ltC;have h3:=h.ws;exact ⟨(aB _ _ _ _ (by show S≠R;omega)).trans h.b4,by have:=heap_set h.b5 j x;rw[he] at this;exact this,bQ h.ch (by omega) j x,bg h.gr (by omega) j x,h1,h2,h3⟩
section
theorem nR (C:Nat) (ao:Option Addr) (n cap:Nat) (sort:Int) (w:World) (h:Ch C ao n cap w) (h1:1≤sort) (h4:sort≤4):
    Calls Tryz.prog 61 #[.pointer (some ⟨C,0,none⟩),.int .i64 sort] w fun e w'=>∃v,e=.returned v∧SmV C sort v w'∧Ch C ao n cap w'∧w.grownBy w' (some C):=by
 have hlC:=h.lt;have hA:=aD w (.cells #[.int .i64 0,.bool false,.string ⟨#[]⟩,.slice none 0 0,.slice none 0 0] 98);have hX:=heap_alloc_new w (.cells #[.int .i64 0,.bool false,.string ⟨#[]⟩,.slice none 0 0,.slice none 0 0] 98);have hch:=h.call hA;have hgr:w.grownBy (w.alloc (.cells #[.int .i64 0,.bool false,.string ⟨#[]⟩,.slice none 0 0,.slice none 0 0] 98)) (some C):=dZ (cL hA);have hcs:sort=1∨(sort=2∨sort=3)∨sort=4:=by omega
 clear h hA h1 h4;generalize hS:w.heap.size=S at *;have HS:=hid hS;rcases hcs with rfl | h23 | rfl
 · go_enter Tryz.func61,Tryz.ntmps61
   go_wp2_with fail
   generalize w.alloc (.cells #[.int .i64 0,.bool false,.string ⟨#[]⟩,.slice none 0 0,.slice none 0 0] 98)=w1 at *;refine (bc C ao n cap w1 2 (by omega) (by omega) hch).mono ?_;rintro e w2 ⟨r,hr,rfl,hch2,hg2,-⟩;have hX2:=(hg2.block S (ay hX) (fun e=>by have:=aG e;omega)).trans hX;have HC:=hid hch2;have HG:=hid (grown_trans hgr hg2);have f0:=ac hX2 0;have fz0:=aM hX2 0;have f1:=ac hX2 1;have fz1:=aM hX2 1;have f2:=ac hX2 2;have fz2:=aM hX2 2;have f3:=ac hX2 3;have fz3:=aM hX2 3;have f4:=ac hX2 4;have fz4:=aM hX2 4;have HX:=hid hX2;clear hch hgr hX hX2 hch2 hg2 hS;have hr01:r=0∨r=1:=by omega
   rcases hr01 with rfl | rfl
   · go_wp2
     have hfin:=heap_set (heap_set (heap_set (heap_set (heap_set HX.out 0 (.int .i64 1)) 1 (.bool false)) 2 (.string ⟨#[]⟩)) 3 (.slice none 0 0)) 4 (.slice none 0 0);refine ig rfl rfl rfl ⟨_,_,_,rfl⟩ ⟨_,_,_,rfl⟩ hfin ⟨_,rfl,.inl ⟨rfl,_,rfl⟩,?_,?_⟩
     · exact bQ (bQ (bQ (bQ (bQ HC.out hlC 0 _) hlC 1 _) hlC 2 _) hlC 3 _) hlC 4 _
     · have hq:w.heap.size≤S:=by have:=HS.out;omega
       exact bg (bg (bg (bg (bg HG.out hq 0 _) hq 1 _) hq 2 _) hq 3 _) hq 4 _
   · go_wp2
     have hfin:=heap_set (heap_set (heap_set (heap_set (heap_set HX.out 0 (.int .i64 1)) 1 (.bool true)) 2 (.string ⟨#[]⟩)) 3 (.slice none 0 0)) 4 (.slice none 0 0);refine ig rfl rfl rfl ⟨_,_,_,rfl⟩ ⟨_,_,_,rfl⟩ hfin ⟨_,rfl,.inl ⟨rfl,_,rfl⟩,?_,?_⟩
     · exact bQ (bQ (bQ (bQ (bQ HC.out hlC 0 _) hlC 1 _) hlC 2 _) hlC 3 _) hlC 4 _
     · have hq:w.heap.size≤S:=by have:=HS.out;omega
       exact bg (bg (bg (bg (bg HG.out hq 0 _) hq 1 _) hq 2 _) hq 3 _) hq 4 _
 · go_enter Tryz.func61,Tryz.ntmps61
   rcases h23 with rfl | rfl
   · go_wp2_with fail
     generalize w.alloc (.cells #[.int .i64 0,.bool false,.string ⟨#[]⟩,.slice none 0 0,.slice none 0 0] 98)=w1 at *;refine (bc C ao n cap w1 6 (by omega) (by omega) hch).mono ?_;rintro e w2 ⟨r,hr,rfl,hch2,hg2,-⟩;have hX2:=(hg2.block S (ay hX) (fun e=>by have:=aG e;omega)).trans hX;have hgr2:=grown_trans hgr hg2;have hr0:(0:Int)≤(r:Int):=by omega
     have hr6:(r:Int)<6:=by omega
     obtain ⟨y,hy⟩:∃y:Int,(r:Int)-2=y:=⟨_,rfl⟩
     have hw:=ky y (by omega)
     go_wp2_with fail
     refine (bP y (by omega) (by omega) _).mono ?_;rintro e w3 ⟨rfl,hb⟩;have hX3:=(hb.block S (ay hX2)).trans hX2;have HC:=hid (hch2.call hb);have HG:=hid (aZ hgr2 hb);have HW:=hid hw;clear hw;generalize (y:Rat)=q at *;obtain ⟨tq,htq⟩:∃tq,TX q=tq:=⟨_,rfl⟩
     rw[htq];have HTQ:=hid htq;have f0:=ac hX3 0;have fz0:=aM hX3 0;have f1:=ac hX3 1;have fz1:=aM hX3 1;have f2:=ac hX3 2;have fz2:=aM hX3 2;have f3:=ac hX3 3;have fz3:=aM hX3 3;have f4:=ac hX3 4;have fz4:=aM hX3 4;have HX:=hid hX3;clear htq hch hgr hX hX2 hX3 hch2 hg2 hS hgr2 hb hr0 hr6 hy
     go_wp2
     have hfin:=heap_set (heap_set (heap_set (heap_set (heap_set HX.out 0 (.int .i64 2)) 1 (.bool false)) 2 (.string tq)) 3 (.slice none 0 0)) 4 (.slice none 0 0);refine ig rfl rfl rfl ⟨_,_,_,rfl⟩ ⟨_,_,_,rfl⟩ hfin ⟨_,rfl,.inr (.inl ⟨by omega,q,HW.out,by rw[HTQ.out];rfl⟩),?_,?_⟩
     · exact bQ (bQ (bQ (bQ (bQ HC.out hlC 0 _) hlC 1 _) hlC 2 _) hlC 3 _) hlC 4 _
     · have hq:w.heap.size≤S:=by have:=HS.out;omega
       exact bg (bg (bg (bg (bg HG.out hq 0 _) hq 1 _) hq 2 _) hq 3 _) hq 4 _
   · go_wp2_with fail
     generalize w.alloc (.cells #[.int .i64 0,.bool false,.string ⟨#[]⟩,.slice none 0 0,.slice none 0 0] 98)=w1 at *;refine (bc C ao n cap w1 6 (by omega) (by omega) hch).mono ?_;rintro e w2 ⟨r,hr,rfl,hch2,hg2,-⟩;have hX2:=(hg2.block S (ay hX) (fun e=>by have:=aG e;omega)).trans hX;have hgr2:=grown_trans hgr hg2;have hr0:(0:Int)≤(r:Int):=by omega
     have hr6:(r:Int)<6:=by omega
     obtain ⟨y,hy⟩:∃y:Int,(r:Int)-2=y:=⟨_,rfl⟩
     have hw:=ky y (by omega)
     go_wp2_with fail
     refine (bP y (by omega) (by omega) _).mono ?_;rintro e w3 ⟨rfl,hb⟩;have hX3:=(hb.block S (ay hX2)).trans hX2;have HC:=hid (hch2.call hb);have HG:=hid (aZ hgr2 hb);have HW:=hid hw;clear hw;generalize (y:Rat)=q at *;obtain ⟨tq,htq⟩:∃tq,TX q=tq:=⟨_,rfl⟩
     rw[htq];have HTQ:=hid htq;have f0:=ac hX3 0;have fz0:=aM hX3 0;have f1:=ac hX3 1;have fz1:=aM hX3 1;have f2:=ac hX3 2;have fz2:=aM hX3 2;have f3:=ac hX3 3;have fz3:=aM hX3 3;have f4:=ac hX3 4;have fz4:=aM hX3 4;have HX:=hid hX3;clear htq hch hgr hX hX2 hX3 hch2 hg2 hS hgr2 hb hr0 hr6 hy
     go_wp2
     have hfin:=heap_set (heap_set (heap_set (heap_set (heap_set HX.out 0 (.int .i64 3)) 1 (.bool false)) 2 (.string tq)) 3 (.slice none 0 0)) 4 (.slice none 0 0);refine ig rfl rfl rfl ⟨_,_,_,rfl⟩ ⟨_,_,_,rfl⟩ hfin ⟨_,rfl,.inr (.inl ⟨by omega,q,HW.out,by rw[HTQ.out];rfl⟩),?_,?_⟩
     · exact bQ (bQ (bQ (bQ (bQ HC.out hlC 0 _) hlC 1 _) hlC 2 _) hlC 3 _) hlC 4 _
     · have hq:w.heap.size≤S:=by have:=HS.out;omega
       exact bg (bg (bg (bg (bg HG.out hq 0 _) hq 1 _) hq 2 _) hq 3 _) hq 4 _
 · go_enter Tryz.func61,Tryz.ntmps61
   go_wp2_with fail
   generalize w.alloc (.cells #[.int .i64 0,.bool false,.string ⟨#[]⟩,.slice none 0 0,.slice none 0 0] 98)=w1 at *;refine (bc C ao n cap w1 3 (by omega) (by omega) hch).mono ?_;rintro e w2 ⟨r,hr,rfl,hch2,hg2,-⟩;have hX2:=(hg2.block S (ay hX) (fun e=>by have:=aG e;omega)).trans hX;have hgr2:=grown_trans hgr hg2;have hw:=ky (r:Int) (by omega)
   go_wp2_with fail
   refine (bP (r:Int) (by omega) (by omega) _).mono ?_;rintro e w3 ⟨rfl,hb⟩;have hX3:=(hb.block S (ay hX2)).trans hX2;have HW:=hid hw;have hch3:=hch2.call hb;have hgr3:=aZ hgr2 hb;have hsw:w.heap.size≤S:=by have:=HS.out;omega
   clear hw;generalize ((r:Int):Rat)=z at *;have hzs:(TX z).size≤1000:=by have:=DS.sz HW.out.1;omega
   have hzi:=iR HW.out.2;obtain ⟨tz,htz⟩:∃tz,TX z=tz:=⟨_,rfl⟩
   rw[htz] at hzs hzi ⊢;have HTZ:=hid htz;have hA5:=aD w3 (.cells #[.int .i64 4,.bool false,.string tz,.slice none 0 0,.slice none 0 0] 98);have hSM:SM S w3.heap.size C ao n cap tz (.slice none 0 0) (.slice none 0 0) w (w3.alloc (.cells #[.int .i64 4,.bool false,.string tz,.slice none 0 0,.slice none 0 0] 98)):=⟨(hA5.block _ (ay hX3)).trans hX3,heap_alloc_new w3 _,hch3.call hA5,aZ hgr3 hA5,ay hX3,hlC,hsw⟩
   have HM:=hid hSM;clear htz hch hgr hX hX2 hX3 hch2 hg2 hS hgr2 hb hch3 hgr3 hA5 hSM hsw;generalize hRR:w3.heap.size=R at *;have HRR:=hid hRR;clear hRR
   go_wp2_with fail
   rw[HRR.out];generalize w3.alloc (.cells #[.int .i64 4,.bool false,.string tz,.slice none 0 0,.slice none 0 0] 98)=w5 at *;refine kB (yJ C ao n cap) [[],[],[1],[1,2],[],[1,2,3,4],[1,2,3,4,5],[0,1,2,3,4,5,6],[0,1,2,3,4,5,6,7],[0,1,2,3,4,5,6,7,8],[0,1,2,3,4,5,6,7,8],[0,1,2,3,4,5,6,7,8,9]] (fun W=>SM S R C ao n cap tz (.slice none 0 0) (.slice none 0 0) w W) (fun _=>True) ?_
   iterate 2
    apply aR
    · intro x;go_simp;done
    · intro x W R hW hF hR;have c0:=ac hW.b5 0;have c1:=ac hW.b5 1;have c2:=ac hW.b5 2;have c3:=ac hW.b5 3;have c4:=ac hW.b5 4;clear hF;unfold aN
      go_simp
      simp only[aF];exact hR _ (ChR.refl _)
    simp only[Act.put,aa,aj,am]
   refine lI (fun u=>∃r:Nat,r<3∧u=.int .i64 r) (fun _ _=>True) (fun _ _ _ h _=>h) ?_ ?_ ?_
   · intro x;go_simp;done
   · intro x W R' hW hF hR;clear hF;unfold aN
     go_simp
     simp only[aF];refine (bc C ao n cap W 3 (by omega) (by omega) hW.ch).mono ?_;rintro e w4 ⟨r,hr,rfl,hch,hg,-⟩;exact ⟨_,rfl,hR _ _ ⟨r,hr,rfl⟩ trivial ⟨hg,fun _=>hch⟩⟩
   simp only[Act.put,aa,aj,am,au,aH,Nat.zero_add,Nat.reduceAdd];refine lI (fun u=>∃q:Rat,Wh q∧u=.string (TX q)) (fun _ _=>True) (fun _ _ _ h _=>h) ?_ ?_ ?_
   · intro x;go_simp;done
   · intro x W R' hW hF hR;obtain ⟨r,hr,hx2⟩:=hF.1.1 rfl;clear hF;simp only[hx2];unfold aN
     go_simp
     simp only[aF];refine (bP (r:Int) (by omega) (by omega) W).mono ?_;rintro e w4 ⟨rfl,hb⟩;exact ⟨_,rfl,hR _ _ ⟨_,ky (r:Int) (by omega),rfl⟩ trivial (ChR.of hb)⟩
   simp only[Act.put,aa,aj,am,au,aH,Nat.zero_add,Nat.reduceAdd];apply aR
   · intro x;go_simp;done
   · intro x W R hW hF hR;have c0:=ac hW.b5 0;have c1:=ac hW.b5 1;have c2:=ac hW.b5 2;have c3:=ac hW.b5 3;have c4:=ac hW.b5 4;clear hF;unfold aN
     go_simp
     simp only[aF];exact hR _ (ChR.refl _)
   simp only[Act.put,aa,aj,am];refine lI (fun u=>∃r:Nat,r<3∧u=.int .i64 r) (fun _ _=>True) (fun _ _ _ h _=>h) ?_ ?_ ?_
   · intro x;go_simp;done
   · intro x W R' hW hF hR;clear hF;unfold aN
     go_simp
     simp only[aF];refine (bc C ao n cap W 3 (by omega) (by omega) hW.ch).mono ?_;rintro e w4 ⟨r,hr,rfl,hch,hg,-⟩;exact ⟨_,rfl,hR _ _ ⟨r,hr,rfl⟩ trivial ⟨hg,fun _=>hch⟩⟩
   simp only[Act.put,aa,aj,am,au,aH,Nat.zero_add,Nat.reduceAdd];refine lI (fun u=>∃q:Rat,Wh q∧u=.string (TX q)) (fun _ _=>True) (fun _ _ _ h _=>h) ?_ ?_ ?_
   · intro x;go_simp;done
   · intro x W R' hW hF hR;obtain ⟨r,hr,hx2⟩:=hF.1.1 rfl;clear hF;simp only[hx2];unfold aN
     go_simp
     simp only[aF];refine (bP (r:Int) (by omega) (by omega) W).mono ?_;rintro e w4 ⟨rfl,hb⟩;exact ⟨_,rfl,hR _ _ ⟨_,ky (r:Int) (by omega),rfl⟩ trivial (ChR.of hb)⟩
   simp only[Act.put,aa,aj,am,au,aH,Nat.zero_add,Nat.reduceAdd];refine lI (fun u=>∃v0 v1,u=.tuple #[v0,v1]) (fun u W=>∃(y x:Rat) (k v:Value),u=.tuple #[cX 4 false tz k v,.int .i64 0]∧Wh y∧Wh x∧SKV R tz (TX y) (TX x) k v W) (fun _ _ _ h hb=>let ⟨y,x,k,v,h1,h2,h3,h4⟩:=h;⟨y,x,k,v,h1,h2,h3,h4.grown hb.1 (aI (Nat.lt_trans hlC (HM.out.lt)))⟩) ?_ ?_ ?_
   · intro x;go_simp;done
   · intro x W R' hW hF hR;obtain ⟨qx,hqx,hx6⟩:=hF.1.1 rfl;obtain ⟨qy,hqy,hx3⟩:=hF.2.2.2.1.1 rfl;clear hF;simp only[hx6,hx3];have hst:=sf tz (TX qy) (TX qx) W hzs hzi (by have:=DS.sz hqy.1;omega) (iR hqy.2) (by have:=DS.sz hqx.1;omega) (iR hqx.2);unfold cX noS at hst;have hRW:=ay hW.b5;unfold aN
     go_simp
     simp only[aF];refine hst.mono ?_;rintro e w4 ⟨k,v,rfl,hk,hb⟩;exact ⟨_,rfl,hR _ _ ⟨_,_,rfl⟩ ⟨qy,qx,k,v,rfl,hqy,hqx,hk.mono (by omega)⟩ (ChR.of hb)⟩
   simp only[Act.put,aa,aj,am,au,aH,Nat.zero_add,Nat.reduceAdd];refine ez (fun x=>x 8=x 7) (fun x x' hx h=>by rw[←hx 8 (.inl rfl),←hx 7 (.inr (List.contains_iff_mem.1 rfl))];exact h) ?_ ?_ ?_
   · intro x;go_simp;done
   · intro x W R' hW hF hR;clear hF hW;unfold aN
     go_simp
     simp only[aF];refine hR _ _ ?_ (ChR.refl _);show bM x 8 _ 8=bM x 8 _ 7;rw[bp,bC (i:=8) (j:=7) _ _ (by decide)]
   simp only[Act.put,aa,aj,am,au,aH,Nat.zero_add,Nat.reduceAdd];refine ez (fun x=>∃v0 v1,x 7=.tuple #[v0,v1]∧x 9=v0) (fun x x' hx h=>by rw[←hx 9 (.inl rfl),←hx 7 (.inr (List.contains_iff_mem.1 rfl))];exact h) ?_ ?_ ?_
   · intro x;go_simp;done
   · intro x W R' hW hF hR;have h8:=hF.1.1 rfl;obtain ⟨v0,v1,h7⟩:=hF.2.1.1 rfl;simp only[AK.free] at h8 h7;clear hF hW;simp only[h8,h7];unfold aN
     go_simp
     simp only[aF];refine hR _ _ ?_ (ChR.refl _);refine ⟨v0,v1,?_,?_⟩
     · show bM x 9 _ 7=_;rw[bC (i:=9) (j:=7) _ _ (by decide),h7]
     · show bM x 9 _ 9=_;rw[bp]
   simp only[Act.put,aa,aj,am,au,aH,Nat.zero_add,Nat.reduceAdd];refine ez (fun _=>True) (fun x x' hx h=>trivial) ?_ ?_ ?_
   · intro x;go_simp;done
   · intro x W R' hW hF hR;have h8:=hF.2.1.1 rfl;obtain ⟨v0,v1,h7⟩:=hF.2.2.1.1 rfl;simp only[AK.free] at h8 h7;clear hF hW;simp only[h8,h7];unfold aN
     go_simp
     simp only[aF];exact hR _ _ trivial (ChR.refl _)
   simp only[Act.put,aa,aj,am,au,aH,Nat.zero_add,Nat.reduceAdd];refine fG (fun _ W=>∃(y x:Rat) (k v:Value),SM S R C ao n cap tz k v w W∧Wh y∧Wh x∧SKV R tz (TX y) (TX x) k v W) (fun _ _ _ h hb=>let ⟨y,x,k,v,h1,h2,h3,h4⟩:=h;⟨y,x,k,v,h1.rel hb,h2,h3,h4.grown hb.1 (aI (Nat.lt_trans hlC (HM.out.lt)))⟩) (fun x x' w h hT=>hT) ?_ ?_ ?_
   · intro x;go_simp;done
   · intro x W R' hW hF hD hR;obtain ⟨v0,v1,h7a,h9⟩:=hF.2.1.1 rfl;obtain ⟨qy,qx,k,v,h7,hqy,hqx,hk⟩:=hF.2.2.2.1.2 rfl rfl rfl;rw[h7] at h7a;injection h7a with h7b;injection h7b with h7c;injection h7c with h7d _;clear hF;rw[←h7d] at h9;obtain ⟨⟨ak,nk,ck,rfl⟩,⟨av,nv,cv,rfl⟩⟩:=hk.sl;unfold cX at h9;simp only[h9];have f0:=ac hW.b5 0;have fz0:=aM hW.b5 0;have f1:=ac hW.b5 1;have fz1:=aM hW.b5 1;have f2:=ac hW.b5 2;have fz2:=aM hW.b5 2;have f3:=ac hW.b5 3;have fz3:=aM hW.b5 3;have f4:=ac hW.b5 4;have fz4:=aM hW.b5 4;have hM5:=((((hW.set 0 (.int .i64 4) _ _ rfl).set 1 (.bool false) _ _ rfl).set 2 (.string tz) _ _ rfl).set 3 (.slice ak nk ck) _ _ rfl).set 4 (.slice av nv cv) _ _ rfl;have hk5:=((((hk.set (ag R) 0 (.int .i64 4)).set (ag R) 1 (.bool false)).set (ag R) 2 (.string tz)).set (ag R) 3 (.slice ak nk ck)).set (ag R) 4 (.slice av nv cv);unfold aN
     go_simp
     simp only[aF];exact hR _ _ ⟨qy,qx,_,_,hM5,hqy,hqx,hk5⟩ trivial (by simp[World.setCell])
   simp only[Act.put];refine cz (by kernel_rfl) (by kernel_rfl) (by kernel_rfl) (fun _ _ h hb=>h.rel hb) (fun _ _ _ _=>trivial) (fun _ _=>trivial) (HM.out.rel (ChR.of (ah _ _).drew)) ?_;intro x W hE hW hF hD;clear hD;obtain ⟨qy,qx,k,v,h5,hqy,hqx,hk⟩:=hF.1.2 rfl;obtain ⟨⟨ak,nk,ck,rfl⟩,⟨av,nv,cv,rfl⟩⟩:=hk.sl;have f0:=ac h5.b4 0;have fz0:=aM h5.b4 0;have f1:=ac h5.b4 1;have fz1:=aM h5.b4 1;have f2:=ac h5.b4 2;have fz2:=aM h5.b4 2;have f3:=ac h5.b4 3;have fz3:=aM h5.b4 3;have f4:=ac h5.b4 4;have fz4:=aM h5.b4 4;have g0:=ac h5.b5 0;have g1:=ac h5.b5 1;have g2:=ac h5.b5 2;have g3:=ac h5.b5 3;have g4:=ac h5.b5 4;have hSR:=h5.lt;have hCS:=h5.ltC;have hWS:=h5.ws;have H5:=hid h5;have HK:=hid hk;clear hF hW h5 hk
   go_wp2
   have hfin:=heap_set (heap_set (heap_set (heap_set (heap_set H5.out.b4 0 (.int .i64 4)) 1 (.bool false)) 2 (.string tz)) 3 (.slice ak nk ck)) 4 (.slice av nv cv);refine ig rfl rfl rfl ⟨_,_,_,rfl⟩ ⟨_,_,_,rfl⟩ hfin ⟨_,rfl,.inr (.inr ⟨rfl,z,qy,qx,_,_,HW.out,hqy,hqx,by rw[HTZ.out],?_⟩),?_,?_⟩
   · rw[HTZ.out];have hq:S≤R:=by omega
     exact (((((HK.out.set hq 0 _).set hq 1 _).set hq 2 _).set hq 3 _).set hq 4 _).mono (by omega)
   · exact bQ (bQ (bQ (bQ (bQ H5.out.ch hCS 0 _) hCS 1 _) hCS 2 _) hCS 3 _) hCS 4 _
   · exact bg (bg (bg (bg (bg H5.out.gr hWS 0 _) hWS 1 _) hWS 2 _) hWS 3 _) hWS 4 _
end
end Go.Proofs.YtapdbeaoakcjeaaGreatDoor.Se

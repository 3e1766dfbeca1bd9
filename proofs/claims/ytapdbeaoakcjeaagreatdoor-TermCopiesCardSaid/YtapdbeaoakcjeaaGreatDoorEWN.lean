/- Join and op over drawn terms; ValueTerm of booleans and numbers. -/
import Derived.Test.YtapdbeaoakcjeaaGreatDoorEWJ
import Derived.Test.YtapdbeaoakcjeaaGreatDoorEWL
set_option maxRecDepth 100000
set_option maxHeartbeats 40000000
open Go.Lib (hid)
namespace Go.Proofs.YtapdbeaoakcjeaaGreatDoor.Se
open Go.RowKit Nmx
theorem uO {w:World} {K g1 c1:Nat} {t1:List Nd} {ty:TypeId} {fr:Nat×Nat} (hK:w.heap[K]? =some (.cells #[.slice (some ⟨g1,0,none⟩) t1.length c1] ty fr)) (h1:NodesAt w g1 t1) (l1:g1<w.heap.size):Kds w (some ⟨K,0,none⟩) K [t1]:=by
 refine ⟨fun _=>rfl,ay hK,fun j t ht=>?_⟩
 match j,ht with
 | 0,ht=>cases ht;exact ⟨g1,c1,ac hK 0,h1,l1⟩
theorem zo {w:World} {K g1 c1 g2 c2:Nat} {t1 t2:List Nd} {ty:TypeId} {fr:Nat×Nat} (hK:w.heap[K]? =some (.cells #[.slice (some ⟨g1,0,none⟩) t1.length c1,.slice (some ⟨g2,0,none⟩) t2.length c2] ty fr)) (h1:NodesAt w g1 t1) (l1:g1<w.heap.size) (h2:NodesAt w g2 t2) (l2:g2<w.heap.size):Kds w (some ⟨K,0,none⟩) K [t1,t2]:=by
 refine ⟨fun _=>rfl,ay hK,fun j t ht=>?_⟩
 match j,ht with
 | 0,ht=>cases ht;exact ⟨g1,c1,ac hK 0,h1,l1⟩
 | 1,ht=>cases ht;exact ⟨g2,c2,ac hK 1,h2,l2⟩
theorem zW {w:World} {K g1 c1 g2 c2 g3 c3:Nat} {t1 t2 t3:List Nd} {ty:TypeId} {fr:Nat×Nat} (hK:w.heap[K]? =some (.cells #[.slice (some ⟨g1,0,none⟩) t1.length c1,.slice (some ⟨g2,0,none⟩) t2.length c2,.slice (some ⟨g3,0,none⟩) t3.length c3] ty fr)) (h1:NodesAt w g1 t1) (l1:g1<w.heap.size) (h2:NodesAt w g2 t2) (l2:g2<w.heap.size) (h3:NodesAt w g3 t3) (l3:g3<w.heap.size):Kds w (some ⟨K,0,none⟩) K [t1,t2,t3]:=by
 refine ⟨fun _=>rfl,ay hK,fun j t ht=>?_⟩
 match j,ht with
 | 0,ht=>cases ht;exact ⟨g1,c1,ac hK 0,h1,l1⟩
 | 1,ht=>cases ht;exact ⟨g2,c2,ac hK 1,h2,l2⟩
 | 2,ht=>cases ht;exact ⟨g3,c3,ac hK 2,h3,l3⟩
def VG (w:World) (D Z:Nat) (s:Int) (e:Ending) (w':World):Prop:=
 ∃g c ts,e=.returned (.slice (some ⟨g,0,none⟩) ts.length (ts.length+c))∧NodesAt w' g ts∧g<w'.heap.size∧w.heap.size≤g∧Tm vs8 D Z ts s∧Below w.heap.size w w'
def VG2 (w:World) (D Z:Nat) (s:Int) (e:Ending) (w':World):Prop:=
 ∃g c ts,e=.returned (.tuple #[.slice (some ⟨g,0,none⟩) ts.length (ts.length+c),.int .i64 0])∧NodesAt w' g ts∧g<w'.heap.size∧w.heap.size≤g∧Tm vs8 D Z ts s∧Below w.heap.size w w'
theorem VG.gp {C:Nat} {ao:Option Addr} {n cap:Nat} {w:World} {D Z:Nat} {s:Int} {e:Ending} {w':World} (h:VG w D Z s e w') (hc:Ch C ao n cap w):GP C ao n cap w D Z s e w':=
 let ⟨g,c,ts,h1,h2,h3,h4,h5,h6⟩:=h;⟨g,c,ts,h1,h2,h3,h4,h5,hc.call h6,dZ (cL h6)⟩
theorem VG.one {x:Nd} {w:World} {s:Int} {e:Ending} {w':World} (h:OnePost x w e w') (ht:Tm vs8 1 1 [x] s):VG w 1 1 s e w':=
 let ⟨g,h1,h2,h3,h4,h5⟩:=h;⟨g,0,[x],h1,h2,h3,h4,ht,h5⟩
theorem o6 (b:Bool):Tm vs8 1 1 [⟨if b then 1 else 2,0,⟨#[]⟩,⟨#[]⟩,0⟩] 1:=by
 cases b
 · exact Tm.one (bt 2 [] [] 1 (by decide) (by decide) (by decide) (by decide) (by decide) (by decide) (by decide) (by decide) (by decide) rfl (by decide)) (by decide) (by decide) (by decide)
 · exact Tm.one (bt 1 [] [] 1 (by decide) (by decide) (by decide) (by decide) (by decide) (by decide) (by decide) (by decide) (by decide) rfl (by decide)) (by decide) (by decide) (by decide)
theorem fF (sort:Int) (q:Rat) (h:sort=3∨sort=2∧q.den=1) (hq:DS 26 q):Tm vs8 1 1 [dI sort q] sort:=
 Tm.one (zk sort q h) (by show ¬(3:Int)=5;decide) (by show (3:Int)=4→_;intro e;cases e) (by have:=DS.sz hq;show (TX q).size≤60;omega)
section
theorem jU {D Z:Nat} {s:Int} {L:List (List Nd)} {ss:List Int} (x:Nd) (ak:Option Addr) (gk ck:Nat) (w:World) (hk:Kds w ak gk L) (ht:Tms vs8 D Z L ss) (hz:L.length*Z≤1000000) (hl:L.length≤1000) (hn:NodeOk { x with kids:=L.length } L.flatten ss s) (h5:¬x.op=5) (h4:¬x.op=4) (hs:x.num.size≤60):
    Calls Tryz.prog 30 #[x.val,.slice ak L.length ck] w (VG w (D+1) (1+L.length*Z) s):=
 (jT x ak gk ck L w hk (aC ht.len.2 hz) (by omega)).mono fun e w' ⟨g,c,h1,h2,h3,h4',h5'⟩=>
   ⟨g,c,_,by rw[h1,au,Nat.add_comm 1],h2,h3,h4',Tm.node ht hn h5 (fun e=>absurd e h4) hs,h5'⟩
theorem qJ {D Z:Nat} {s:Int} {L:List (List Nd)} {ss:List Int} (o:Int) (ak:Option Addr) (gk ck:Nat) (w:World) (hk:Kds w ak gk L) (ht:Tms vs8 D Z L ss) (hz:L.length*Z≤1000000) (hl:L.length≤1000) (hn:NodeOk (ndE o L.length) L.flatten ss s) (h5:¬o=5) (h4:¬o=4):
    Calls Tryz.prog 64 #[.int .i64 o,.slice ak L.length ck] w (VG w (D+1) (1+L.length*Z) s):=by
 have hj:=jU ⟨o,0,⟨#[]⟩,⟨#[]⟩,0⟩ ak gk ck w hk ht hz hl hn h5 h4 (by show (0:Nat)≤60;omega);clear hk ht hn;generalize L.length=n at *;unfold Nd.val at hj;simp only at hj
 go_enter Tryz.func64,Tryz.ntmps64
 go_wp2_with fail
 refine hj.mono ?_;rintro e w1 ⟨g,c,ts,rfl,hv⟩;have HV:=hid hv;clear hv hj
 go_wp2
 go_ret
 exact ⟨g,c,ts,rfl,HV.out⟩
theorem yl (b:Bool) (w:World):Calls Tryz.prog 60 #[cX 1 b ⟨#[]⟩ noS noS] w (VG2 w 1 1 1):=by
 have hA:=aD w (.cells #[.int .i64 1,.bool b,.string ⟨#[]⟩,.slice none 0 0,.slice none 0 0] 98);have hX:=heap_alloc_new w (.cells #[.int .i64 1,.bool b,.string ⟨#[]⟩,.slice none 0 0,.slice none 0 0] 98);have hq:=yi b (w.alloc (.cells #[.int .i64 1,.bool b,.string ⟨#[]⟩,.slice none 0 0,.slice none 0 0] 98));unfold cX noS at hq;unfold cX noS
 go_enter Tryz.func60,Tryz.ntmps60
 go_wp2_with fail
 generalize w.alloc (.cells #[.int .i64 1,.bool b,.string ⟨#[]⟩,.slice none 0 0,.slice none 0 0] 98)=w1 at *;refine hq.mono ?_;rintro e w2 ⟨rfl,hb⟩;have hX2:=(hb.block _ (ay hX)).trans hX;have d0:=ac hX2 0;have d1:=ac hX2 1;have HB:=hid (hA.trans (hb.mono hA.size));have hs2:=HB.out.size;clear hb hA hX hX2 hq
 go_wp2_with fail
 refine (kw b _).mono ?_;rintro e w3 ⟨g,rfl,h1,h2,h3,h4⟩;have HN:=hid h1;have HB3:=hid (HB.out.trans (h4.mono hs2));clear h1 h4
 go_wp2
 go_ret2
 exact ⟨g,0,_,rfl,HN.out,h2,aC hs2 h3,o6 b,HB3.out⟩
theorem zp (s:Int) (q:Rat) (w:World) (hq26:DS 26 q) (h:s=3∨s=2∧q.den=1):Calls Tryz.prog 60 #[cX s false (TX q) noS noS] w (VG2 w 1 1 s):=by
 have hT:=fF s q h hq26;have hsz:(TX q).size≤1000:=by have:=DS.sz hq26;omega
 have hA:=aD w (.cells #[.int .i64 s,.bool false,.string (TX q),.slice none 0 0,.slice none 0 0] 98);have hX:=heap_alloc_new w (.cells #[.int .i64 s,.bool false,.string (TX q),.slice none 0 0,.slice none 0 0] 98);have hq:=zn s (TX q) (w.alloc (.cells #[.int .i64 s,.bool false,.string (TX q),.slice none 0 0,.slice none 0 0] 98)) hsz (by rcases h with h | h;exact .inr ⟨h,wW q⟩;exact .inl ⟨h.1,iR h.2⟩);have h23:s=2∨s=3:=by rcases h with h | h;exact .inr h;exact .inl h.1
 unfold dI at hT;unfold cX noS at hq;unfold cX noS;have HT:=hid hT;clear h hT hq26 hsz;generalize TX q=tq at *
 go_enter Tryz.func60,Tryz.ntmps60
 go_wp2_with fail
 generalize w.alloc (.cells #[.int .i64 s,.bool false,.string tq,.slice none 0 0,.slice none 0 0] 98)=w1 at *;refine hq.mono ?_;rintro e w2 ⟨rfl,hb⟩;have hX2:=(hb.block _ (ay hX)).trans hX;have d0:=ac hX2 0;have d1:=ac hX2 2;have HB:=hid (hA.trans (hb.mono hA.size));have hs2:=HB.out.size;clear hb hA hX hX2 hq;rcases h23 with rfl | rfl
 all_goals
  go_wp2_with fail
  refine (dz _ tq _).mono ?_;rintro e w3 ⟨g,rfl,h1,h2,h3,h4⟩;have HN:=hid h1;have HB3:=hid (HB.out.trans (h4.mono hs2));clear h1 h4
  go_wp2
  go_ret2
  exact ⟨g,0,_,rfl,HN.out,h2,aC hs2 h3,HT.out,HB3.out⟩
end
end Go.Proofs.YtapdbeaoakcjeaaGreatDoor.Se
/- ValueTerm of small array values. -/
namespace Go.Proofs.YtapdbeaoakcjeaaGreatDoor.Se
open Go.RowKit Nmx
theorem Tm.ok {D Z:Nat} {ts:List Nd} {s:Int} (h:Tm vs8 D Z ts s) (hd:D≤257) (hz:Z≤20000) (g cap:Nat) (w:World) (hN:NodesAt w g ts) (hg:g<w.heap.size):
    Calls Tryz.prog 47 #[.slice (some ⟨g,0,none⟩) ts.length cap] w fun e w'=>e=.returned (.bool true)∧Below w.heap.size w w':=
 ld vs8 D ts s g cap w h.wt hd (aC h.le hz) h.nm (fun y hy=>aC (h.sh y hy) (by omega)) hN hg
theorem qK (ks:List Nd):NodeOk { (⟨20,0,⟨#[]⟩,⟨#[]⟩,0⟩:Nd) with kids:=((1:Nat):Int) } ks [2] 4:=
 bt 20 ks [2] 4 (by decide) (by decide) (by decide) (by decide) (by decide) (by decide) (by decide) (by decide) (by decide) rfl (fun e=>absurd e (by decide))
theorem xc (ks:List Nd):NodeOk { (⟨19,0,⟨#[]⟩,⟨#[]⟩,0⟩:Nd) with kids:=((3:Nat):Int) } ks [4,2,2] 4:=
 bt 19 ks [4,2,2] 4 (by decide) (by decide) (by decide) (by decide) (by decide) (by decide) (by decide) (by decide) (by decide) rfl (fun e=>absurd e (by decide))
def TmAt (S D Z:Nat) (s:Int) (u:Value) (W:World):Prop:=∃g c ts,u=.slice (some ⟨g,0,none⟩) ts.length (ts.length+c)∧NodesAt W g ts∧g<W.heap.size∧S≤g∧Tm vs8 D Z ts s
theorem TmAt.far {S D Z:Nat} {s:Int} {u:Value} {W W':World} (h:TmAt S D Z s u W) (hb:Below W.heap.size W W'):TmAt S D Z s u W':=
 let ⟨g,c,ts,h1,h2,h3,h4,h5⟩:=h;⟨g,c,ts,h1,h2.below hb h3,ap h3 hb.size,h4,h5⟩
theorem TmAt.mono {S D Z D' Z':Nat} {s:Int} {u:Value} {W:World} (h:TmAt S D Z s u W) (hd:D≤D') (hz:Z≤Z'):TmAt S D' Z' s u W:=
 let ⟨g,c,ts,h1,h2,h3,h4,h5⟩:=h;⟨g,c,ts,h1,h2,h3,h4,h5.mono hd hz⟩
section
theorem ym (z:Rat) (w:World) (hz:DS 26 z) (hd:z.den=1):Calls Tryz.prog 60 #[cX 4 false (TX z) noS noS] w (VG2 w 3 7 4):=by
 have HTZ:=hid (fF 2 z (.inr ⟨rfl,hd⟩) hz);have hsz:(TX z).size≤1000:=by have:=DS.sz hz;omega
 have hiz:=iR hd;unfold dI at HTZ;generalize TX z=tz at *;have hA:=aD w (.cells #[.int .i64 4,.bool false,.string tz,.slice none 0 0,.slice none 0 0] 98);have hX:=heap_alloc_new w (.cells #[.int .i64 4,.bool false,.string tz,.slice none 0 0,.slice none 0 0] 98);have hq:=tt tz (w.alloc (.cells #[.int .i64 4,.bool false,.string tz,.slice none 0 0,.slice none 0 0] 98)) hsz hiz;unfold cX noS at hq;unfold cX noS;clear hiz hsz hz hd
 go_enter Tryz.func60,Tryz.ntmps60
 go_wp2_with fail
 generalize w.alloc (.cells #[.int .i64 4,.bool false,.string tz,.slice none 0 0,.slice none 0 0] 98)=w1 at *;refine hq.mono ?_;rintro e w2 ⟨rfl,hb⟩;replace hX:=(hb.block _ (ay hX)).trans hX;have hs2:w.heap.size≤w2.heap.size:=aC hA.size hb.size;have hbel:=hA.trans (hb.mono hA.size);have d0:=ac hX 0;have d2:=ac hX 2;clear hb hq hA
 go_wp2_with fail
 refine (dz 2 tz _).mono ?_;rintro e w3 ⟨g0,rfl,h1,h2,h3,h4⟩;replace hX:=(h4.block _ (ay hX)).trans hX;replace hbel:=hbel.trans (h4.mono hs2);have hA5:=aD w3 (.cells #[.slice (some ⟨g0,0,none⟩) 1 1] 22);have hk:=uO (t1:=[⟨3,2,⟨#[]⟩,tz,0⟩]) (heap_alloc_new w3 (.cells #[.slice (some ⟨g0,0,none⟩) 1 1] 22)) (h1.below hA5 h2) (ap h2 hA5.size);have hj:=jU ⟨20,0,⟨#[]⟩,⟨#[]⟩,0⟩ (some ⟨w3.heap.size,0,none⟩) w3.heap.size 1 _ hk (.cons HTZ.out .nil) (by simp) (by simp) (qK _) (by decide) (by decide) (by show (0:Nat)≤60;omega);unfold Nd.val at hj;simp only at hj;have hs3:w.heap.size≤w3.heap.size:=aC hs2 h4.size;have hs5:w.heap.size≤(w3.alloc (.cells #[.slice (some ⟨g0,0,none⟩) 1 1] 22)).heap.size:=aC hs3 hA5.size;replace hX:=(hA5.block _ (ay hX)).trans hX;replace hbel:=hbel.trans (hA5.mono hs3);clear h1 h2 h3 h4 hk hA5 d0 d2 hs2
 go_wp2_with fail
 generalize w3.alloc (.cells #[.slice (some ⟨g0,0,none⟩) 1 1] 22)=w5 at *;refine hj.mono ?_;rintro e w6 ⟨g1,c0,t1,rfl,k1,k2,k3,kt,k4⟩;replace hX:=(k4.block _ (ay hX)).trans hX;replace hbel:=hbel.trans (k4.mono hs5);have HTM:Hid (TmAt w.heap.size 2 2 4 (.slice (some ⟨g1,0,none⟩) t1.length (t1.length+c0)) w6):=hid ⟨g1,c0,t1,rfl,k1,k2,aC hs5 k3,kt⟩;have hs6:w.heap.size≤w6.heap.size:=aC hs5 k4.size;have hT1:t1.length≤2:=kt.le;clear k1 k2 k3 kt k4 hj hs3 hs5;have d3:=ac hX 3;have HB:=hid hbel;obtain ⟨tl,htl⟩:∃tl,t1.length=tl:=⟨_,rfl⟩
 obtain ⟨c1,hc1⟩:∃c1,t1.length+c0=c1:=⟨_,rfl⟩
 rw[hc1,htl] at HTM;rw[hc1,htl];clear hc1;clear hX hbel htl hT1;have h0:¬(0:Int)<0:=by omega
 go_wp2
 go_loop [4,5] (fun u i=>u=.slice (some ⟨g1,0,none⟩) tl c1∧i=.int .i64 0) (fun _ _=>0)
 case atStart=>exact ⟨rfl,rfl⟩
 case round=>
  obtain ⟨rfl,rfl⟩:=hrel;obtain ⟨g,c,ts,hu,k1,k2,k3,kt⟩:=HTM.out;have hval:=kt.ok (by decide) (by decide) g (ts.length+c) w6 k1 k2;injection hu with hu1 hu2 hu3;cases hu1
  subst hu2 hu3;have HK:=hid k1;have HTT:=hid kt;obtain ⟨tl,htl⟩:∃tl,ts.length=tl:=⟨_,rfl⟩
  rw[htl] at hval ⊢;have HTL:=hid htl;clear k1 kt htl HTM HTZ
  go_wp2_with fail
  refine hval.mono ?_;rintro e w7 ⟨rfl,hb⟩;have HB7:=hid (HB.out.trans (hb.mono hs6));have HK7:=hid (HK.out.below hb k2);have k27:=ap k2 hb.size;clear hb
  go_wp2
  go_ret2
  exact ⟨_,_,ts,by rw[HTL.out];rfl,HK7.out,k27,k3,HTT.out.mono (by decide) (by decide),HB7.out⟩
theorem yn (z y x:Rat) (gk ck gv cv:Nat) (w:World) (hz:DS 26 z) (hd:z.den=1) (hy:DS 26 y) (hyd:y.den=1) (hx:DS 26 x) (hxd:x.den=1) (hne:((TX x).toList==(TX z).toList)=false)
    (k0:w.cell? ⟨gk,0,none⟩=some (.string (TX y))) (v0:w.cell? ⟨gv,0,none⟩=some (.string (TX x))) (lk:gk<w.heap.size) (lv:gv<w.heap.size):
    Calls Tryz.prog 60 #[cX 4 false (TX z) (.slice (some ⟨gk,0,none⟩) 1 ck) (.slice (some ⟨gv,0,none⟩) 1 cv)] w (VG2 w 3 7 4):=by
 have HTZ:=hid (fF 2 z (.inr ⟨rfl,hd⟩) hz);have HTY:=hid (fF 2 y (.inr ⟨rfl,hyd⟩) hy);have HTX:=hid (fF 2 x (.inr ⟨rfl,hxd⟩) hx);have hsz:(TX z).size≤1000:=by have:=DS.sz hz;omega
 have hsy:(TX y).size≤1000:=by have:=DS.sz hy;omega
 have hsx:(TX x).size≤1000:=by have:=DS.sz hx;omega
 have hiz:=iR hd;have hiy:=iR hyd;have hix:=iR hxd;unfold dI at HTZ HTY HTX;generalize TX z=tz at *;generalize TX y=ty at *;generalize TX x=tx at *;have hA:=aD w (.cells #[.int .i64 4,.bool false,.string tz,.slice (some ⟨gk,0,none⟩) 1 ck,.slice (some ⟨gv,0,none⟩) 1 cv] 98);have hX:VVX w.heap.size tz ty tx gk ck gv cv w (w.alloc (.cells #[.int .i64 4,.bool false,.string tz,.slice (some ⟨gk,0,none⟩) 1 ck,.slice (some ⟨gv,0,none⟩) 1 cv] 98)):=⟨heap_alloc_new w _,(hA.cell (p:=⟨gk,0,none⟩) lk).trans k0,(hA.cell (p:=⟨gv,0,none⟩) lv).trans v0,ap lk hA.size,ap lv hA.size,hA⟩
 have hq:=yj tz ty tx gk ck gv cv (w.alloc (.cells #[.int .i64 4,.bool false,.string tz,.slice (some ⟨gk,0,none⟩) 1 ck,.slice (some ⟨gv,0,none⟩) 1 cv] 98)) hsz hiz hsy hiy hsx hix hne hX.k0 hX.v0 hX.lk hX.lv;unfold cX at hq;unfold cX;clear hiz hsz hz hd hiy hsy hy hyd hix hsx hx hxd hne k0 v0 lk lv
 go_enter Tryz.func60,Tryz.ntmps60
 go_wp2_with fail
 generalize w.alloc (.cells #[.int .i64 4,.bool false,.string tz,.slice (some ⟨gk,0,none⟩) 1 ck,.slice (some ⟨gv,0,none⟩) 1 cv] 98)=w1 at *;refine hq.mono ?_;rintro e w2 ⟨rfl,hb⟩;replace hX:=hX.far hb;have hs2:w.heap.size≤w2.heap.size:=aC hA.size hb.size;have hbel:=hA.trans (hb.mono hA.size);have d0:=ac hX.bx 0;have d2:=ac hX.bx 2;clear hb hq hA
 go_wp2_with fail
 refine (dz 2 tz _).mono ?_;rintro e w3 ⟨g0,rfl,h1,h2,h3,h4⟩;replace hX:=hX.far h4;replace hbel:=hbel.trans (h4.mono hs2);have hA5:=aD w3 (.cells #[.slice (some ⟨g0,0,none⟩) 1 1] 22);have hk:=uO (t1:=[⟨3,2,⟨#[]⟩,tz,0⟩]) (heap_alloc_new w3 (.cells #[.slice (some ⟨g0,0,none⟩) 1 1] 22)) (h1.below hA5 h2) (ap h2 hA5.size);have hj:=jU ⟨20,0,⟨#[]⟩,⟨#[]⟩,0⟩ (some ⟨w3.heap.size,0,none⟩) w3.heap.size 1 _ hk (.cons HTZ.out .nil) (by simp) (by simp) (qK _) (by decide) (by decide) (by show (0:Nat)≤60;omega);unfold Nd.val at hj;simp only at hj;have hs3:w.heap.size≤w3.heap.size:=aC hs2 h4.size;have hs5:w.heap.size≤(w3.alloc (.cells #[.slice (some ⟨g0,0,none⟩) 1 1] 22)).heap.size:=aC hs3 hA5.size;replace hX:=hX.far hA5;replace hbel:=hbel.trans (hA5.mono hs3);clear h1 h2 h3 h4 hk hA5 d0 d2 hs2
 go_wp2_with fail
 generalize w3.alloc (.cells #[.slice (some ⟨g0,0,none⟩) 1 1] 22)=w5 at *;refine hj.mono ?_;rintro e w6 ⟨g1,c0,t1,rfl,k1,k2,k3,kt,k4⟩;replace hX:=hX.far k4;replace hbel:=hbel.trans (k4.mono hs5);have HTM:Hid (TmAt w.heap.size 2 2 4 (.slice (some ⟨g1,0,none⟩) t1.length (t1.length+c0)) w6):=hid ⟨g1,c0,t1,rfl,k1,k2,aC hs5 k3,kt⟩;have hs6:w.heap.size≤w6.heap.size:=aC hs5 k4.size;have hT1:t1.length≤2:=kt.le;clear k1 k2 k3 kt k4 hj hs3 hs5;have d3:=ac hX.bx 3;have HVX:=hid hX;obtain ⟨tl,htl⟩:∃tl,t1.length=tl:=⟨_,rfl⟩
 obtain ⟨c1,hc1⟩:∃c1,t1.length+c0=c1:=⟨_,rfl⟩
 rw[hc1,htl] at HTM;rw[htl] at hT1;rw[hc1,htl];clear hc1;clear hX hbel htl;generalize hS:w.heap.size=S at *;have HS:=hid hS
 go_wp2
 go_loopw [4,5] (fun u i wr=>(i=.int .i64 0∧u=.slice (some ⟨g1,0,none⟩) tl c1∧VVX S tz ty tx gk ck gv cv w wr∧TmAt S 2 2 4 (.slice (some ⟨g1,0,none⟩) tl c1) wr)∨(i=.int .i64 1∧VVX S tz ty tx gk ck gv cv w wr∧TmAt S 3 7 4 u wr)) (fun _ i _=>1-(intOf i).toNat)
 case atStart=>exact .inl ⟨rfl,rfl,HVX.out,HTM.out⟩
 case round=>
  clear d3 HVX HTM hS;rcases hrel with ⟨rfl,rfl,hX,hT⟩ | ⟨rfl,hX,hT⟩
  · have HX:=hid hX;have HT:=hid hT;have d3:=ac hX.bx 3;have htI:¬(20000:Int)<(tl:Int):=by omega
    clear hX hT
    go_upto_region 15 with fail
    refine aV [[],[],[],[2],[],[2,3,4],[2,3,4,5],[2,3,4,5,6],[],[8],[],[8,9,10],[8,9,10,11],[2,3,4,5,6,7,8,9,10,11,12],[1,2,3,4,5,6,7,8,9,10,11,12,13],[0,1,2,3,4,5,6,7,8,9,10,11,12,13,14],[0,1,2,3,4,5,6,7,8,9,10,11,12,13,14,15]] (fun W=>VVX S tz ty tx gk ck gv cv w W∧TmAt S 2 2 4 (.slice (some ⟨g1,0,none⟩) tl c1) W) (fun _=>True) ?_
    iterate 7
     apply aR
     · intro x;go_simp;done
     · intro x W R hW hF hR;obtain ⟨hv,-⟩:=hW;have c3:=ac hv.bx 3;have c4:=ac hv.bx 4;have k0:=hv.k0;have v0:=hv.v0;clear hF;unfold aN
       go_simp
       simp only[aF];exact hR _ (ah _ _)
     simp only[Act.put,aa,aj,am]
    refine cY (fun u W=>∃g,u=.slice (some ⟨g,0,none⟩) 1 1∧NodesAt W g [⟨3,2,⟨#[]⟩,ty,0⟩]∧g<W.heap.size) (fun _ _ _ h hb=>let ⟨g,h1,h2,h3⟩:=h;⟨g,h1,h2.below hb h3,ap h3 hb.size⟩) ?_ ?_ ?_
    · intro x;go_simp;done
    · intro x W R' hW hF hR;clear hF hW;unfold aN
      go_simp
      simp only[aF];refine (dz 2 ty W).mono ?_;rintro e w4 ⟨g,rfl,h1,h2,h3,h4⟩;exact ⟨_,rfl,hR _ _ ⟨g,rfl,h1,h2⟩ h4⟩
    simp only[Act.put,aa,aj,am,au,aH,Nat.zero_add,Nat.reduceAdd]
    iterate 5
     apply aR
     · intro x;go_simp;done
     · intro x W R hW hF hR;obtain ⟨hv,-⟩:=hW;have c3:=ac hv.bx 3;have c4:=ac hv.bx 4;have k0:=hv.k0;have v0:=hv.v0;clear hF;unfold aN
       go_simp
       simp only[aF];exact hR _ (ah _ _)
     simp only[Act.put,aa,aj,am]
    refine cY (fun u W=>∃g,u=.slice (some ⟨g,0,none⟩) 1 1∧NodesAt W g [⟨3,2,⟨#[]⟩,tx,0⟩]∧g<W.heap.size) (fun _ _ _ h hb=>let ⟨g,h1,h2,h3⟩:=h;⟨g,h1,h2.below hb h3,ap h3 hb.size⟩) ?_ ?_ ?_
    · intro x;go_simp;done
    · intro x W R' hW hF hR;clear hF hW;unfold aN
      go_simp
      simp only[aF];refine (dz 2 tx W).mono ?_;rintro e w4 ⟨g,rfl,h1,h2,h3,h4⟩;exact ⟨_,rfl,hR _ _ ⟨g,rfl,h1,h2⟩ h4⟩
    simp only[Act.put,aa,aj,am,au,aH,Nat.zero_add,Nat.reduceAdd];refine cY (fun u W=>∃K ga gb,u=.slice (some ⟨K,0,none⟩) 3 3∧W.heap[K]? =some (.cells #[.slice (some ⟨g1,0,none⟩) tl c1,.slice (some ⟨ga,0,none⟩) 1 1,.slice (some ⟨gb,0,none⟩) 1 1] 22 (0,0))∧NodesAt W ga [⟨3,2,⟨#[]⟩,ty,0⟩]∧ga<W.heap.size∧NodesAt W gb [⟨3,2,⟨#[]⟩,tx,0⟩]∧gb<W.heap.size) (fun _ _ _ h hb=>let ⟨K,ga,gb,h1,h2,h3,h4,h5,h6⟩:=h;⟨K,ga,gb,h1,(hb.block _ (ay h2)).trans h2,h3.below hb h4,ap h4 hb.size,h5.below hb h6,ap h6 hb.size⟩) ?_ ?_ ?_
    · intro x;go_simp;done
    · intro x W R' hW hF hR;obtain ⟨gb,hx13,nb,lb⟩:=hF.1.2 rfl rfl rfl;obtain ⟨ga,hx7,na,la⟩:=hF.2.2.2.2.2.2.1.2 rfl rfl rfl;clear hF;simp only[hx13,hx7];unfold aN
      go_simp
      simp only[aF];have hb:=aD W (.cells #[.slice (some ⟨g1,0,none⟩) tl c1,.slice (some ⟨ga,0,none⟩) 1 1,.slice (some ⟨gb,0,none⟩) 1 1] 22);exact hR _ _ ⟨W.heap.size,ga,gb,rfl,heap_alloc_new W _,na.below hb la,ap la hb.size,nb.below hb lb,ap lb hb.size⟩ hb
    simp only[Act.put,aa,aj,am,au,aH,Nat.zero_add,Nat.reduceAdd];refine cY (fun u W=>TmAt S 3 7 4 u W) (fun _ _ _ h hb=>h.far hb) ?_ ?_ ?_
    · intro x;go_simp;done
    · intro x W R' hW hF hR;obtain ⟨K,ga,gb,hx14,hK,na,la,nb,lb⟩:=hF.1.2 rfl rfl rfl;obtain ⟨g,c,ts,hu,k1,k2,k3,kt⟩:=hW.2;injection hu with hu1 hu2 hu3;cases hu1
      subst hu2 hu3;have hk:=zW (t1:=ts) (t2:=[⟨3,2,⟨#[]⟩,ty,0⟩]) (t3:=[⟨3,2,⟨#[]⟩,tx,0⟩]) hK k1 k2 na la nb lb;have hj:=jU (D:=2) (Z:=2) ⟨19,0,⟨#[]⟩,⟨#[]⟩,0⟩ (some ⟨K,0,none⟩) K 3 W hk (.cons kt (.cons (HTY.out.mono (by decide) (by decide)) (.cons (HTX.out.mono (by decide) (by decide)) .nil))) (by simp) (by simp) (xc _) (by decide) (by decide) (by show (0:Nat)≤60;omega);unfold Nd.val at hj;simp only at hj;have hSW:=aI (ay hW.1.bx);clear hF;simp only[hx14];unfold aN
      go_simp
      simp only[aF];refine hj.mono ?_;rintro e w4 ⟨g',c',ts',rfl,m1,m2,m3,mt,m4⟩;exact ⟨_,rfl,hR _ _ ⟨g',c',ts',rfl,m1,m2,aC hSW m3,mt⟩ m4⟩
    simp only[Act.put,aa,aj,am,au,aH,Nat.zero_add,Nat.reduceAdd];refine ez (fun x=>x 16=x 15) (fun x x' hx h=>by rw[←hx 16 (.inl rfl),←hx 15 (.inr (List.contains_iff_mem.1 rfl))];exact h) ?_ ?_ ?_
    · intro x;go_simp;done
    · intro x W R' hW hF hR;clear hF hW;unfold aN
      go_simp
      simp only[aF];refine hR _ _ ?_ (ah _ _);show bM x 16 _ 16=bM x 16 _ 15;rw[bp,bC (i:=16) (j:=15) _ _ (by decide)]
    simp only[Act.put,aa,aj,am,au,aH,Nat.zero_add,Nat.reduceAdd];refine cz (by kernel_rfl) (by kernel_rfl) (by kernel_rfl) (fun _ _ h hb=>⟨h.1.far hb,h.2.far hb⟩) (fun _ _ _ _=>trivial) (fun _ _=>trivial) (⟨HX.out.far (ah _ _).drew,HT.out.far (ah _ _).drew⟩) ?_;intro x W hE hW hF hD;clear hD;have hY:=hF.2.1.2 rfl;have hx16:=hF.1.1;simp only[AK.free] at hx16;simp only[AK.fact] at hY;have hXX:=(hW rfl).1;have HY:=hid hY;have HXX:=hid hXX;clear hF hW hY hXX;simp only[hx16];generalize x 15=v15 at *
    go_wp2
    go_roundw
    case rel=>exact .inr ⟨by go_num,HXX.out,HY.out⟩
    case measure=>simp[intOf]
  · have d3:=ac hX.bx 3;have HX:=hid hX;obtain ⟨g,c,ts,rfl,k1,k2,k3,kt⟩:=hT;have hval:=kt.ok (by decide) (by decide) g (ts.length+c) wr k1 k2;have HK:=hid k1;have HTT:=hid kt;obtain ⟨t2,htl⟩:∃t2,ts.length=t2:=⟨_,rfl⟩
    rw[htl] at hval ⊢;have HTL:=hid htl;have h0:¬(1:Int)<1:=by omega
    clear k1 kt htl HTZ HTY HTX hX
    go_wp2_with fail
    refine hval.mono ?_;rintro e w7 ⟨rfl,hb⟩;have HB7:=hid (HX.out.bel.trans (hb.mono (aI (ay HX.out.bx))));have HK7:=hid (HK.out.below hb k2);have k27:=ap k2 hb.size;clear hb
    go_wp2
    go_ret2
    exact ⟨_,_,ts,by rw[HTL.out];rfl,HK7.out,k27,by rw[HS.out];exact k3,HTT.out,by rw[HS.out];exact HB7.out⟩
end
end Go.Proofs.YtapdbeaoakcjeaaGreatDoor.Se

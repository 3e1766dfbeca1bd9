import Derived.Test.YthefknoicelhaaaGreatDoorRWL
set_option maxRecDepth 100000
set_option maxHeartbeats 40000000
open Go.Lib (hid)
namespace Go.Proofs.YthefknoicelhaaaGreatDoor.Se
open Go.RowKit Nmx Go.Proofs.Tryz
def VG2 (w:World) (D Z:Nat) (s:Int) (e:Ending) (w':World):Prop:=
 ∃g c ts,e=.returned (.tuple #[.slice (some ⟨g,0,none⟩) ts.length (ts.length+c),.int .i64 0])∧NodesAt w' g ts∧g<w'.heap.size∧w.heap.size≤g∧Tm vs8 D Z ts s∧Below w.heap.size w w'
theorem VG.gp {C:Nat} {ao:Option Addr} {n cap:Nat} {w:World} {D Z:Nat} {s:Int} {e:Ending} {w':World} (h:VG w D Z s e w') (hc:Ch C ao n cap w):GP C ao n cap w D Z s e w':=
 let ⟨g,c,ts,h1,h2,h3,h4,h5,h6⟩:=h;⟨g,c,ts,h1,h2,h3,h4,h5,hc.call h6,grown_more (grown_below h6)⟩
theorem bd (b:Bool):Tm vs8 1 1 [⟨if b then 1 else 2,0,⟨#[]⟩,⟨#[]⟩,0⟩] 1:=by
 cases b
 · exact Tm.one (ac 2 [] [] 1 (by decide) (by decide) (by decide) (by decide) (by decide) (by decide) (by decide) (by decide) (by decide) rfl (by decide)) (by decide) (by decide) (by decide)
 · exact Tm.one (ac 1 [] [] 1 (by decide) (by decide) (by decide) (by decide) (by decide) (by decide) (by decide) (by decide) (by decide) rfl (by decide)) (by decide) (by decide) (by decide)
theorem ar (sort:Int) (q:Rat) (h:sort=3∨sort=2∧q.den=1) (hq:DS 26 q):Tm vs8 1 1 [ap sort q] sort:=
 Tm.one (du sort q h) (by show ¬(3:Int)=5;decide) (by show (3:Int)=4→_;intro e;cases e) (by have:=DS.sz hq;show (TX q).size≤60;omega)
theorem cX (b:Bool) (w:World):Calls prog 37 #[ah 1 b ⟨#[]⟩ noS noS] w (VG2 w 1 1 1):=by
 have hA:=alloc_far' w (.cells #[.int .i64 1,.bool b,.string ⟨#[]⟩,.slice none 0 0,.slice none 0 0] 69);have hX:=heap_alloc_new w (.cells #[.int .i64 1,.bool b,.string ⟨#[]⟩,.slice none 0 0,.slice none 0 0] 69);have hq:=cU b (w.alloc (.cells #[.int .i64 1,.bool b,.string ⟨#[]⟩,.slice none 0 0,.slice none 0 0] 69));unfold ah noS at hq;unfold ah noS
 go_enter func37,ntmps37
 go_wp2_with fail
 generalize w.alloc (.cells #[.int .i64 1,.bool b,.string ⟨#[]⟩,.slice none 0 0,.slice none 0 0] 69)=w1 at *;refine hq.mono ?_;rintro e w2 ⟨rfl,hb⟩;have hX2:=(hb.block _ (lt_of_heap hX)).trans hX;have d0:=heap_cell hX2 0;have d1:=heap_cell hX2 1;have HB:=hid (hA.trans (hb.mono hA.size));have hs2:=HB.out.size;clear hb hA hX hX2 hq
 go_wp2_with fail
 refine (aC b _).mono ?_;rintro e w3 ⟨g,rfl,h1,h2,h3,h4⟩;have HN:=hid h1;have HB3:=hid (HB.out.trans (h4.mono hs2));clear h1 h4
 go_wp2
 go_ret2
 exact ⟨g,0,_,rfl,HN.out,h2,Nat.le_trans hs2 h3,bd b,HB3.out⟩
theorem dz (s:Int) (q:Rat) (w:World) (hq26:DS 26 q) (h:s=3∨s=2∧q.den=1):Calls prog 37 #[ah s false (TX q) noS noS] w (VG2 w 1 1 s):=by
 have hT:=ar s q h hq26;have hsz:(TX q).size≤1000:=by have:=DS.sz hq26;omega
 have hA:=alloc_far' w (.cells #[.int .i64 s,.bool false,.string (TX q),.slice none 0 0,.slice none 0 0] 69);have hX:=heap_alloc_new w (.cells #[.int .i64 s,.bool false,.string (TX q),.slice none 0 0,.slice none 0 0] 69);have hq:=dy s (TX q) (w.alloc (.cells #[.int .i64 s,.bool false,.string (TX q),.slice none 0 0,.slice none 0 0] 69)) hsz (by rcases h with h | h;exact .inr ⟨h,co q⟩;exact .inl ⟨h.1,az h.2⟩);have h23:s=2∨s=3:=by rcases h with h | h;exact .inr h;exact .inl h.1
 unfold ap at hT;unfold ah noS at hq;unfold ah noS;have HT:=hid hT;clear h hT hq26 hsz;generalize TX q=tq at *
 go_enter func37,ntmps37
 go_wp2_with fail
 generalize w.alloc (.cells #[.int .i64 s,.bool false,.string tq,.slice none 0 0,.slice none 0 0] 69)=w1 at *;refine hq.mono ?_;rintro e w2 ⟨rfl,hb⟩;have hX2:=(hb.block _ (lt_of_heap hX)).trans hX;have d0:=heap_cell hX2 0;have d1:=heap_cell hX2 2;have HB:=hid (hA.trans (hb.mono hA.size));have hs2:=HB.out.size;clear hb hA hX hX2 hq;rcases h23 with rfl | rfl
 all_goals
  go_wp2_with fail
  refine (ai _ tq _).mono ?_;rintro e w3 ⟨g,rfl,h1,h2,h3,h4⟩;have HN:=hid h1;have HB3:=hid (HB.out.trans (h4.mono hs2));clear h1 h4
  go_wp2
  go_ret2
  exact ⟨g,0,_,rfl,HN.out,h2,Nat.le_trans hs2 h3,HT.out,HB3.out⟩
theorem bw (ks:List Nd):NodeOk { (⟨20,0,⟨#[]⟩,⟨#[]⟩,0⟩:Nd) with kids:=((1:Nat):Int) } ks [2] 4:=
 ac 20 ks [2] 4 (by decide) (by decide) (by decide) (by decide) (by decide) (by decide) (by decide) (by decide) (by decide) rfl (fun e=>absurd e (by decide))
theorem cw (ks:List Nd):NodeOk { (⟨19,0,⟨#[]⟩,⟨#[]⟩,0⟩:Nd) with kids:=((3:Nat):Int) } ks [4,2,2] 4:=
 ac 19 ks [4,2,2] 4 (by decide) (by decide) (by decide) (by decide) (by decide) (by decide) (by decide) (by decide) (by decide) rfl (fun e=>absurd e (by decide))
theorem cY (z:Rat) (w:World) (hz:DS 26 z) (hd:z.den=1):Calls prog 37 #[ah 4 false (TX z) noS noS] w (VG2 w 3 7 4):=by
 have HTZ:=hid (ar 2 z (.inr ⟨rfl,hd⟩) hz);have hsz:(TX z).size≤1000:=by have:=DS.sz hz;omega
 have hiz:=az hd;unfold ap at HTZ;generalize TX z=tz at *;have hA:=alloc_far' w (.cells #[.int .i64 4,.bool false,.string tz,.slice none 0 0,.slice none 0 0] 69);have hX:=heap_alloc_new w (.cells #[.int .i64 4,.bool false,.string tz,.slice none 0 0,.slice none 0 0] 69);have hq:=bW tz (w.alloc (.cells #[.int .i64 4,.bool false,.string tz,.slice none 0 0,.slice none 0 0] 69)) hsz hiz;unfold ah noS at hq;unfold ah noS;clear hiz hsz hz hd
 go_enter func37,ntmps37
 go_wp2_with fail
 generalize w.alloc (.cells #[.int .i64 4,.bool false,.string tz,.slice none 0 0,.slice none 0 0] 69)=w1 at *;refine hq.mono ?_;rintro e w2 ⟨rfl,hb⟩;replace hX:=(hb.block _ (lt_of_heap hX)).trans hX;have hs2:w.heap.size≤w2.heap.size:=Nat.le_trans hA.size hb.size;have hbel:=hA.trans (hb.mono hA.size);have d0:=heap_cell hX 0;have d2:=heap_cell hX 2;clear hb hq hA
 go_wp2_with fail
 refine (ai 2 tz _).mono ?_;rintro e w3 ⟨g0,rfl,h1,h2,h3,h4⟩;replace hX:=(h4.block _ (lt_of_heap hX)).trans hX;replace hbel:=hbel.trans (h4.mono hs2);have hA5:=alloc_far' w3 (.cells #[.slice (some ⟨g0,0,none⟩) 1 1] 26);have hk:=kds1 (t1:=[⟨3,2,⟨#[]⟩,tz,0⟩]) (heap_alloc_new w3 (.cells #[.slice (some ⟨g0,0,none⟩) 1 1] 26)) (h1.below hA5 h2) (Nat.lt_of_lt_of_le h2 hA5.size);have hj:=join_tm ⟨20,0,⟨#[]⟩,⟨#[]⟩,0⟩ (some ⟨w3.heap.size,0,none⟩) w3.heap.size 1 _ hk (.cons HTZ.out .nil) (by simp) (by simp) (bw _) (by decide) (by decide) (by show (0:Nat)≤60;omega);unfold Nd.val at hj;simp only at hj;have hs3:w.heap.size≤w3.heap.size:=Nat.le_trans hs2 h4.size;have hs5:w.heap.size≤(w3.alloc (.cells #[.slice (some ⟨g0,0,none⟩) 1 1] 26)).heap.size:=Nat.le_trans hs3 hA5.size;replace hX:=(hA5.block _ (lt_of_heap hX)).trans hX;replace hbel:=hbel.trans (hA5.mono hs3);clear h1 h2 h3 h4 hk hA5 d0 d2 hs2
 go_wp2_with fail
 generalize w3.alloc (.cells #[.slice (some ⟨g0,0,none⟩) 1 1] 26)=w5 at *;refine hj.mono ?_;rintro e w6 ⟨g1,c0,t1,rfl,k1,k2,k3,kt,k4⟩;replace hX:=(k4.block _ (lt_of_heap hX)).trans hX;replace hbel:=hbel.trans (k4.mono hs5);have HTM:Hid (TmAt w.heap.size 2 2 4 (.slice (some ⟨g1,0,none⟩) t1.length (t1.length+c0)) w6):=hid ⟨g1,c0,t1,rfl,k1,k2,Nat.le_trans hs5 k3,kt⟩;have hs6:w.heap.size≤w6.heap.size:=Nat.le_trans hs5 k4.size;have hT1:t1.length≤2:=kt.le;clear k1 k2 k3 kt k4 hj hs3 hs5;have d3:=heap_cell hX 3;have HB:=hid hbel;obtain ⟨tl,htl⟩:∃tl,t1.length=tl:=⟨_,rfl⟩
 obtain ⟨c1,hc1⟩:∃c1,t1.length+c0=c1:=⟨_,rfl⟩
 rw[hc1,htl] at HTM;rw[hc1,htl];clear hc1;clear hX hbel htl hT1;have h0:¬(0:Int)<0:=by omega
 go_wp2
 go_loop [4,5] (fun u i=>u=.slice (some ⟨g1,0,none⟩) tl c1∧i=.int .i64 0) (fun _ _=>0)
 case atStart=>exact ⟨rfl,rfl⟩
 case round=>
  obtain ⟨rfl,rfl⟩:=hrel;obtain ⟨g,c,ts,hu,k1,k2,k3,kt⟩:=HTM.out;have hval:=kt.ok (by decide) (by decide) g (ts.length+c) w6 k1 k2;injection hu with hu1 hu2 hu3;cases hu1
  subst hu2 hu3;have HK:=hid k1;have HTT:=hid kt;obtain ⟨tl,htl⟩:∃tl,ts.length=tl:=⟨_,rfl⟩
  rw[htl] at hval ⊢;have HTL:=hid htl;clear k1 kt htl HTM HTZ
  go_wp2_with fail
  refine hval.mono ?_;rintro e w7 ⟨rfl,hb⟩;have HB7:=hid (HB.out.trans (hb.mono hs6));have HK7:=hid (HK.out.below hb k2);have k27:=Nat.lt_of_lt_of_le k2 hb.size;clear hb
  go_wp2
  go_ret2
  exact ⟨_,_,ts,by rw[HTL.out];rfl,HK7.out,k27,k3,HTT.out.mono (by decide) (by decide),HB7.out⟩
theorem cZ (z y x:Rat) (gk ck gv cv:Nat) (w:World) (hz:DS 26 z) (hd:z.den=1) (hy:DS 26 y) (hyd:y.den=1) (hx:DS 26 x) (hxd:x.den=1) (hne:((TX x).toList==(TX z).toList)=false)
    (k0:w.cell? ⟨gk,0,none⟩=some (.string (TX y))) (v0:w.cell? ⟨gv,0,none⟩=some (.string (TX x))) (lk:gk<w.heap.size) (lv:gv<w.heap.size):
    Calls prog 37 #[ah 4 false (TX z) (.slice (some ⟨gk,0,none⟩) 1 ck) (.slice (some ⟨gv,0,none⟩) 1 cv)] w (VG2 w 3 7 4):=by
 have HTZ:=hid (ar 2 z (.inr ⟨rfl,hd⟩) hz);have HTY:=hid (ar 2 y (.inr ⟨rfl,hyd⟩) hy);have HTX:=hid (ar 2 x (.inr ⟨rfl,hxd⟩) hx);have hsz:(TX z).size≤1000:=by have:=DS.sz hz;omega
 have hsy:(TX y).size≤1000:=by have:=DS.sz hy;omega
 have hsx:(TX x).size≤1000:=by have:=DS.sz hx;omega
 have hiz:=az hd;have hiy:=az hyd;have hix:=az hxd;unfold ap at HTZ HTY HTX;generalize TX z=tz at *;generalize TX y=ty at *;generalize TX x=tx at *;have hA:=alloc_far' w (.cells #[.int .i64 4,.bool false,.string tz,.slice (some ⟨gk,0,none⟩) 1 ck,.slice (some ⟨gv,0,none⟩) 1 cv] 69);have hX:VVX w.heap.size tz ty tx gk ck gv cv w (w.alloc (.cells #[.int .i64 4,.bool false,.string tz,.slice (some ⟨gk,0,none⟩) 1 ck,.slice (some ⟨gv,0,none⟩) 1 cv] 69)):=⟨heap_alloc_new w _,(hA.cell (p:=⟨gk,0,none⟩) lk).trans k0,(hA.cell (p:=⟨gv,0,none⟩) lv).trans v0,Nat.lt_of_lt_of_le lk hA.size,Nat.lt_of_lt_of_le lv hA.size,hA⟩
 have hq:=cV tz ty tx gk ck gv cv (w.alloc (.cells #[.int .i64 4,.bool false,.string tz,.slice (some ⟨gk,0,none⟩) 1 ck,.slice (some ⟨gv,0,none⟩) 1 cv] 69)) hsz hiz hsy hiy hsx hix hne hX.k0 hX.v0 hX.lk hX.lv;unfold ah at hq;unfold ah;clear hiz hsz hz hd hiy hsy hy hyd hix hsx hx hxd hne k0 v0 lk lv
 go_enter func37,ntmps37
 go_wp2_with fail
 generalize w.alloc (.cells #[.int .i64 4,.bool false,.string tz,.slice (some ⟨gk,0,none⟩) 1 ck,.slice (some ⟨gv,0,none⟩) 1 cv] 69)=w1 at *;refine hq.mono ?_;rintro e w2 ⟨rfl,hb⟩;replace hX:=hX.far hb;have hs2:w.heap.size≤w2.heap.size:=Nat.le_trans hA.size hb.size;have hbel:=hA.trans (hb.mono hA.size);have d0:=heap_cell hX.bx 0;have d2:=heap_cell hX.bx 2;clear hb hq hA
 go_wp2_with fail
 refine (ai 2 tz _).mono ?_;rintro e w3 ⟨g0,rfl,h1,h2,h3,h4⟩;replace hX:=hX.far h4;replace hbel:=hbel.trans (h4.mono hs2);have hA5:=alloc_far' w3 (.cells #[.slice (some ⟨g0,0,none⟩) 1 1] 26);have hk:=kds1 (t1:=[⟨3,2,⟨#[]⟩,tz,0⟩]) (heap_alloc_new w3 (.cells #[.slice (some ⟨g0,0,none⟩) 1 1] 26)) (h1.below hA5 h2) (Nat.lt_of_lt_of_le h2 hA5.size);have hj:=join_tm ⟨20,0,⟨#[]⟩,⟨#[]⟩,0⟩ (some ⟨w3.heap.size,0,none⟩) w3.heap.size 1 _ hk (.cons HTZ.out .nil) (by simp) (by simp) (bw _) (by decide) (by decide) (by show (0:Nat)≤60;omega);unfold Nd.val at hj;simp only at hj;have hs3:w.heap.size≤w3.heap.size:=Nat.le_trans hs2 h4.size;have hs5:w.heap.size≤(w3.alloc (.cells #[.slice (some ⟨g0,0,none⟩) 1 1] 26)).heap.size:=Nat.le_trans hs3 hA5.size;replace hX:=hX.far hA5;replace hbel:=hbel.trans (hA5.mono hs3);clear h1 h2 h3 h4 hk hA5 d0 d2 hs2
 go_wp2_with fail
 generalize w3.alloc (.cells #[.slice (some ⟨g0,0,none⟩) 1 1] 26)=w5 at *;refine hj.mono ?_;rintro e w6 ⟨g1,c0,t1,rfl,k1,k2,k3,kt,k4⟩;replace hX:=hX.far k4;replace hbel:=hbel.trans (k4.mono hs5);have HTM:Hid (TmAt w.heap.size 2 2 4 (.slice (some ⟨g1,0,none⟩) t1.length (t1.length+c0)) w6):=hid ⟨g1,c0,t1,rfl,k1,k2,Nat.le_trans hs5 k3,kt⟩;have hs6:w.heap.size≤w6.heap.size:=Nat.le_trans hs5 k4.size;have hT1:t1.length≤2:=kt.le;clear k1 k2 k3 kt k4 hj hs3 hs5;have d3:=heap_cell hX.bx 3;have HVX:=hid hX;obtain ⟨tl,htl⟩:∃tl,t1.length=tl:=⟨_,rfl⟩
 obtain ⟨c1,hc1⟩:∃c1,t1.length+c0=c1:=⟨_,rfl⟩
 rw[hc1,htl] at HTM;rw[htl] at hT1;rw[hc1,htl];clear hc1;clear hX hbel htl;generalize hS:w.heap.size=S at *;have HS:=hid hS
 go_wp2
 go_loopw [4,5] (fun u i wr=>(i=.int .i64 0∧u=.slice (some ⟨g1,0,none⟩) tl c1∧VVX S tz ty tx gk ck gv cv w wr∧TmAt S 2 2 4 (.slice (some ⟨g1,0,none⟩) tl c1) wr)∨(i=.int .i64 1∧VVX S tz ty tx gk ck gv cv w wr∧TmAt S 3 7 4 u wr)) (fun _ i _=>1-(intOf i).toNat)
 case atStart=>exact .inl ⟨rfl,rfl,HVX.out,HTM.out⟩
 case round=>
  clear d3 HVX HTM hS;rcases hrel with ⟨rfl,rfl,hX,hT⟩ | ⟨rfl,hX,hT⟩
  · have HX:=hid hX;have HT:=hid hT;have d3:=heap_cell hX.bx 3;have htI:¬(20000:Int)<(tl:Int):=by omega
    clear hX hT
    go_upto_region 15 with fail
    refine add_region [[],[],[],[2],[],[2,3,4],[2,3,4,5],[2,3,4,5,6],[],[8],[],[8,9,10],[8,9,10,11],[2,3,4,5,6,7,8,9,10,11,12],[1,2,3,4,5,6,7,8,9,10,11,12,13],[0,1,2,3,4,5,6,7,8,9,10,11,12,13,14],[0,1,2,3,4,5,6,7,8,9,10,11,12,13,14,15]] (fun W=>VVX S tz ty tx gk ck gv cv w W∧TmAt S 2 2 4 (.slice (some ⟨g1,0,none⟩) tl c1) W) (fun _=>True) ?_
    iterate 7
     apply a_con
     · intro x;go_simp;done
     · intro x W R hW hF hR;obtain ⟨hv,-⟩:=hW;have c3:=heap_cell hv.bx 3;have c4:=heap_cell hv.bx 4;have k0:=hv.k0;have v0:=hv.v0;clear hF;unfold addAt
       go_simp
       simp only[addUpon];exact hR _ (Below.refl _ _)
     simp only[Act.put,List.setIfInBounds_toArray,List.set_cons_zero,List.set_cons_succ]
    refine a_opq (fun u W=>∃g,u=.slice (some ⟨g,0,none⟩) 1 1∧NodesAt W g [⟨3,2,⟨#[]⟩,ty,0⟩]∧g<W.heap.size) (fun _ _ _ h hb=>let ⟨g,h1,h2,h3⟩:=h;⟨g,h1,h2.below hb h3,Nat.lt_of_lt_of_le h3 hb.size⟩) ?_ ?_ ?_
    · intro x;go_simp;done
    · intro x W R' hW hF hR;clear hF hW;unfold addAt
      go_simp
      simp only[addUpon];refine (ai 2 ty W).mono ?_;rintro e w4 ⟨g,rfl,h1,h2,h3,h4⟩;exact ⟨_,rfl,hR _ _ ⟨g,rfl,h1,h2⟩ h4⟩
    simp only[Act.put,List.setIfInBounds_toArray,List.set_cons_zero,List.set_cons_succ,List.length_cons,List.length_nil,Nat.zero_add,Nat.reduceAdd]
    iterate 5
     apply a_con
     · intro x;go_simp;done
     · intro x W R hW hF hR;obtain ⟨hv,-⟩:=hW;have c3:=heap_cell hv.bx 3;have c4:=heap_cell hv.bx 4;have k0:=hv.k0;have v0:=hv.v0;clear hF;unfold addAt
       go_simp
       simp only[addUpon];exact hR _ (Below.refl _ _)
     simp only[Act.put,List.setIfInBounds_toArray,List.set_cons_zero,List.set_cons_succ]
    refine a_opq (fun u W=>∃g,u=.slice (some ⟨g,0,none⟩) 1 1∧NodesAt W g [⟨3,2,⟨#[]⟩,tx,0⟩]∧g<W.heap.size) (fun _ _ _ h hb=>let ⟨g,h1,h2,h3⟩:=h;⟨g,h1,h2.below hb h3,Nat.lt_of_lt_of_le h3 hb.size⟩) ?_ ?_ ?_
    · intro x;go_simp;done
    · intro x W R' hW hF hR;clear hF hW;unfold addAt
      go_simp
      simp only[addUpon];refine (ai 2 tx W).mono ?_;rintro e w4 ⟨g,rfl,h1,h2,h3,h4⟩;exact ⟨_,rfl,hR _ _ ⟨g,rfl,h1,h2⟩ h4⟩
    simp only[Act.put,List.setIfInBounds_toArray,List.set_cons_zero,List.set_cons_succ,List.length_cons,List.length_nil,Nat.zero_add,Nat.reduceAdd];refine a_opq (fun u W=>∃K ga gb,u=.slice (some ⟨K,0,none⟩) 3 3∧W.heap[K]? =some (.cells #[.slice (some ⟨g1,0,none⟩) tl c1,.slice (some ⟨ga,0,none⟩) 1 1,.slice (some ⟨gb,0,none⟩) 1 1] 26 (0,0))∧NodesAt W ga [⟨3,2,⟨#[]⟩,ty,0⟩]∧ga<W.heap.size∧NodesAt W gb [⟨3,2,⟨#[]⟩,tx,0⟩]∧gb<W.heap.size) (fun _ _ _ h hb=>let ⟨K,ga,gb,h1,h2,h3,h4,h5,h6⟩:=h;⟨K,ga,gb,h1,(hb.block _ (lt_of_heap h2)).trans h2,h3.below hb h4,Nat.lt_of_lt_of_le h4 hb.size,h5.below hb h6,Nat.lt_of_lt_of_le h6 hb.size⟩) ?_ ?_ ?_
    · intro x;go_simp;done
    · intro x W R' hW hF hR;obtain ⟨gb,hx13,nb,lb⟩:=hF.1.2 rfl rfl rfl;obtain ⟨ga,hx7,na,la⟩:=hF.2.2.2.2.2.2.1.2 rfl rfl rfl;clear hF;simp only[hx13,hx7];unfold addAt
      go_simp
      simp only[addUpon];have hb:=alloc_far' W (.cells #[.slice (some ⟨g1,0,none⟩) tl c1,.slice (some ⟨ga,0,none⟩) 1 1,.slice (some ⟨gb,0,none⟩) 1 1] 26);exact hR _ _ ⟨W.heap.size,ga,gb,rfl,heap_alloc_new W _,na.below hb la,Nat.lt_of_lt_of_le la hb.size,nb.below hb lb,Nat.lt_of_lt_of_le lb hb.size⟩ hb
    simp only[Act.put,List.setIfInBounds_toArray,List.set_cons_zero,List.set_cons_succ,List.length_cons,List.length_nil,Nat.zero_add,Nat.reduceAdd];refine a_opq (fun u W=>TmAt S 3 7 4 u W) (fun _ _ _ h hb=>h.far hb) ?_ ?_ ?_
    · intro x;go_simp;done
    · intro x W R' hW hF hR;obtain ⟨K,ga,gb,hx14,hK,na,la,nb,lb⟩:=hF.1.2 rfl rfl rfl;obtain ⟨g,c,ts,hu,k1,k2,k3,kt⟩:=hW.2;injection hu with hu1 hu2 hu3;cases hu1
      subst hu2 hu3;have hk:=kds3 (t1:=ts) (t2:=[⟨3,2,⟨#[]⟩,ty,0⟩]) (t3:=[⟨3,2,⟨#[]⟩,tx,0⟩]) hK k1 k2 na la nb lb;have hj:=join_tm (D:=2) (Z:=2) ⟨19,0,⟨#[]⟩,⟨#[]⟩,0⟩ (some ⟨K,0,none⟩) K 3 W hk (.cons kt (.cons (HTY.out.mono (by decide) (by decide)) (.cons (HTX.out.mono (by decide) (by decide)) .nil))) (by simp) (by simp) (cw _) (by decide) (by decide) (by show (0:Nat)≤60;omega);unfold Nd.val at hj;simp only at hj;have hSW:=Nat.le_of_lt (lt_of_heap hW.1.bx);clear hF;simp only[hx14];unfold addAt
      go_simp
      simp only[addUpon];refine hj.mono ?_;rintro e w4 ⟨g',c',ts',rfl,m1,m2,m3,mt,m4⟩;exact ⟨_,rfl,hR _ _ ⟨g',c',ts',rfl,m1,m2,Nat.le_trans hSW m3,mt⟩ m4⟩
    simp only[Act.put,List.setIfInBounds_toArray,List.set_cons_zero,List.set_cons_succ,List.length_cons,List.length_nil,Nat.zero_add,Nat.reduceAdd];refine a_freX (fun x=>x 16=x 15) (fun x x' hx h=>by rw[←hx 16 (.inl rfl),←hx 15 (.inr (List.contains_iff_mem.1 rfl))];exact h) ?_ ?_ ?_
    · intro x;go_simp;done
    · intro x W R' hW hF hR;clear hF hW;unfold addAt
      go_simp
      simp only[addUpon];refine hR _ _ ?_ (Below.refl _ _);show updX x 16 _ 16=updX x 16 _ 15;rw[updX_self,updX_ne (i:=16) (j:=15) _ _ (by decide)]
    simp only[Act.put,List.setIfInBounds_toArray,List.set_cons_zero,List.set_cons_succ,List.length_cons,List.length_nil,Nat.zero_add,Nat.reduceAdd];refine a_nil (by kernel_rfl) (by kernel_rfl) (by kernel_rfl) (fun _ _ h hb=>⟨h.1.far hb,h.2.far hb⟩) (fun _ _ _ _=>trivial) (fun _ _=>trivial) (⟨HX.out.far (Below.refl _ _).drew,HT.out.far (Below.refl _ _).drew⟩) ?_;intro x W hE hW hF hD;clear hD;have hY:=hF.2.1.2 rfl;have hx16:=hF.1.1;simp only[AK.free] at hx16;simp only[AK.fact] at hY;have hXX:=(hW rfl).1;have HY:=hid hY;have HXX:=hid hXX;clear hF hW hY hXX;simp only[hx16];generalize x 15=v15 at *
    go_wp2
    go_roundw
    case rel=>exact .inr ⟨by go_num,HXX.out,HY.out⟩
    case measure=>simp[intOf]
  · have d3:=heap_cell hX.bx 3;have HX:=hid hX;obtain ⟨g,c,ts,rfl,k1,k2,k3,kt⟩:=hT;have hval:=kt.ok (by decide) (by decide) g (ts.length+c) wr k1 k2;have HK:=hid k1;have HTT:=hid kt;obtain ⟨t2,htl⟩:∃t2,ts.length=t2:=⟨_,rfl⟩
    rw[htl] at hval ⊢;have HTL:=hid htl;have h0:¬(1:Int)<1:=by omega
    clear k1 kt htl HTZ HTY HTX hX
    go_wp2_with fail
    refine hval.mono ?_;rintro e w7 ⟨rfl,hb⟩;have HB7:=hid (HX.out.bel.trans (hb.mono (Nat.le_of_lt (lt_of_heap HX.out.bx))));have HK7:=hid (HK.out.below hb k2);have k27:=Nat.lt_of_lt_of_le k2 hb.size;clear hb
    go_wp2
    go_ret2
    exact ⟨_,_,ts,by rw[HTL.out];rfl,HK7.out,k27,by rw[HS.out];exact k3,HTT.out,by rw[HS.out];exact HB7.out⟩
def Wh (q:Rat):Prop:=DS 26 q∧q.den=1
theorem aD (z:Int) (h:z.natAbs<100):Wh (z:Rat):=⟨(DS.int (d:=2) (by show _<100;exact h)).mono (by omega),rfl⟩
def SmV (C:Nat) (sort:Int) (v:Value) (W:World):Prop:=
 (sort=1∧∃b,v=ah 1 b ⟨#[]⟩ noS noS)∨((sort=2∨sort=3)∧∃q:Rat,Wh q∧v=ah sort false (TX q) noS noS)∨
 (sort=4∧∃(z y x:Rat) (k u:Value),Wh z∧Wh y∧Wh x∧v=ah 4 false (TX z) k u∧SKV C (TX z) (TX y) (TX x) k u W)
theorem VG2.mono {w:World} {D D' Z Z':Nat} {s:Int} {e:Ending} {w':World} (h:VG2 w D Z s e w') (hd:D≤D') (hz:Z≤Z'):VG2 w D' Z' s e w':=
 let ⟨g,c,ts,h1,h2,h3,h4,h5,h6⟩:=h;⟨g,c,ts,h1,h2,h3,h4,h5.mono hd hz,h6⟩
theorem bz {C:Nat} {sort:Int} {v:Value} {w:World} (h:SmV C sort v w) (_:0<w.heap.size):Calls prog 37 #[v] w (VG2 w 3 7 sort):=by
 rcases h with ⟨rfl,b,rfl⟩ | ⟨hs,q,hq,rfl⟩ | ⟨rfl,z,y,x,k,u,hz,hy,hx,rfl,hk⟩
 · exact (cX b w).mono fun _ _ h=>h.mono (by decide) (by decide)
 · exact (dz sort q w hq.1 (by rcases hs with h | h;exact .inr ⟨h,hq.2⟩;exact .inl h)).mono fun _ _ h=>h.mono (by decide) (by decide)
 · rcases hk with ⟨rfl,rfl⟩ | ⟨hne,⟨B,c,rfl,hb,hl,-⟩,⟨B',c',rfl,hb',hl',-⟩⟩
   · exact cY z w hz.1 hz.2
   · exact cZ z y x B c B' c' w hz.1 hz.2 hy.1 hy.2 hx.1 hx.2 hne hb hb' hl hl'
theorem dn (C:Nat) (ao:Option Addr) (n cap:Nat):RelOk (ChR C ao n cap):=⟨fun w=>ChR.refl w,fun _ _ h=>h.1.size⟩
theorem SK.grown {R C:Nat} {key:ByteArray} {u:Value} {W W':World} (h:SK R key u W) (hg:W.grownBy W' (some C)) (hC:C≤R):SK R key u W':=
 let ⟨B,c,h1,h2,h3,h4⟩:=h;⟨B,c,h1,(World.cell?_of_block (hg.block B h3 (fun e=>by have:=Option.some.inj e;omega))).trans h2,Nat.lt_of_lt_of_le h3 hg.size,h4⟩
theorem SKV.grown {R C:Nat} {num key val:ByteArray} {k v:Value} {W W':World} (h:SKV R num key val k v W) (hg:W.grownBy W' (some C)) (hC:C≤R):SKV R num key val k v W':=by
 rcases h with h | ⟨h1,h2,h3⟩
 · exact .inl h
 · exact .inr ⟨h1,h2.grown hg hC,h3.grown hg hC⟩
structure SM (S R C:Nat) (ao:Option Addr) (n cap:Nat) (tz:ByteArray) (k v:Value) (w W:World):Prop where
 b4:W.heap[S]? =some (.cells #[.int .i64 0,.bool false,.string ⟨#[]⟩,.slice none 0 0,.slice none 0 0] 69 (0,0))
 b5:W.heap[R]? =some (.cells #[.int .i64 4,.bool false,.string tz,k,v] 69 (0,0))
 ch:Ch C ao n cap W
 gr:w.grownBy W (some C)
 lt:S<R
 ltC:C<S
 ws:w.heap.size≤S
theorem SM.rel {S R C:Nat} {ao:Option Addr} {n cap:Nat} {tz:ByteArray} {k v:Value} {w W W':World} (h:SM S R C ao n cap tz k v w W) (hr:ChR C ao n cap W W'):SM S R C ao n cap tz k v w W':=
 ⟨(hr.1.block S (lt_of_heap h.b4) (fun e=>by have:=Option.some.inj e;have:=h.ltC;omega)).trans h.b4,(hr.1.block R (lt_of_heap h.b5) (fun e=>by have:=Option.some.inj e;have:=h.ltC;have:=h.lt;omega)).trans h.b5,hr.2 h.ch,grown_trans h.gr hr.1,h.lt,h.ltC,h.ws⟩
theorem af {C:Nat} {ao:Option Addr} {n cap:Nat} {w:World} (h:Ch C ao n cap w) {q:Nat} (hq:C<q) (j:Nat) (x:Value):Ch C ao n cap (w.setCell ⟨q,j,none⟩ x):=h.grown (ay (grown_refl w (some q)) j x) (fun k e=>by cases e;exact hq)
theorem ab {w W:World} {C:Nat} (h:w.grownBy W (some C)) {q:Nat} (hq:w.heap.size≤q) (j:Nat) (x:Value):w.grownBy (W.setCell ⟨q,j,none⟩ x) (some C):=
 ⟨h.os,h.tape,h.output,by simpa [World.setCell] using h.size,fun k hk hne=>(Below.heap_setCell _ _ _ _ (by show k≠q;omega)).trans (h.block k hk hne)⟩
theorem SM.set {S R C:Nat} {ao:Option Addr} {n cap:Nat} {tz:ByteArray} {k v:Value} {w W:World} (h:SM S R C ao n cap tz k v w W) (j:Nat) (x k' v':Value) (he:(#[.int .i64 4,.bool false,.string tz,k,v]:Array Value).setIfInBounds j x=#[.int .i64 4,.bool false,.string tz,k',v']):SM S R C ao n cap tz k' v' w (W.setCell ⟨R,j,none⟩ x):=by
 have h1:=h.lt;have h2:=h.ltC;have h3:=h.ws;exact ⟨(Below.heap_setCell _ _ _ _ (by show S≠R;omega)).trans h.b4,by have:=heap_set h.b5 j x;rw[he] at this;exact this,af h.ch (by omega) j x,ab h.gr (by omega) j x,h1,h2,h3⟩
theorem aX (C:Nat) (ao:Option Addr) (n cap:Nat) (sort:Int) (w:World) (h:Ch C ao n cap w) (h1:1≤sort) (h4:sort≤4):
    Calls prog 38 #[.pointer (some ⟨C,0,none⟩),.int .i64 sort] w fun e w'=>∃v,e=.returned v∧SmV C sort v w'∧Ch C ao n cap w'∧w.grownBy w' (some C):=by
 have hlC:=h.lt;have hA:=alloc_far' w (.cells #[.int .i64 0,.bool false,.string ⟨#[]⟩,.slice none 0 0,.slice none 0 0] 69);have hX:=heap_alloc_new w (.cells #[.int .i64 0,.bool false,.string ⟨#[]⟩,.slice none 0 0,.slice none 0 0] 69);have hch:=h.call hA;have hgr:w.grownBy (w.alloc (.cells #[.int .i64 0,.bool false,.string ⟨#[]⟩,.slice none 0 0,.slice none 0 0] 69)) (some C):=grown_more (grown_below hA);have hcs:sort=1∨(sort=2∨sort=3)∨sort=4:=by omega
 clear h hA h1 h4;generalize hS:w.heap.size=S at *;have HS:=hid hS;rcases hcs with rfl | h23 | rfl
 · go_enter func38,ntmps38
   go_wp2_with fail
   generalize w.alloc (.cells #[.int .i64 0,.bool false,.string ⟨#[]⟩,.slice none 0 0,.slice none 0 0] 69)=w1 at *;refine (aa C ao n cap w1 2 (by omega) (by omega) hch).mono ?_;rintro e w2 ⟨r,hr,rfl,hch2,hg2,-⟩;have hX2:=(hg2.block S (lt_of_heap hX) (fun e=>by have:=Option.some.inj e;omega)).trans hX;have HC:=hid hch2;have HG:=hid (grown_trans hgr hg2);have f0:=heap_cell hX2 0;have fz0:=heap_fz hX2 0;have f1:=heap_cell hX2 1;have fz1:=heap_fz hX2 1;have f2:=heap_cell hX2 2;have fz2:=heap_fz hX2 2;have f3:=heap_cell hX2 3;have fz3:=heap_fz hX2 3;have f4:=heap_cell hX2 4;have fz4:=heap_fz hX2 4;have HX:=hid hX2;clear hch hgr hX hX2 hch2 hg2 hS;have hr01:r=0∨r=1:=by omega
   rcases hr01 with rfl | rfl
   · go_wp2
     have hfin:=heap_set (heap_set (heap_set (heap_set (heap_set HX.out 0 (.int .i64 1)) 1 (.bool false)) 2 (.string ⟨#[]⟩)) 3 (.slice none 0 0)) 4 (.slice none 0 0);refine aw rfl rfl rfl ⟨_,_,_,rfl⟩ ⟨_,_,_,rfl⟩ hfin ⟨_,rfl,.inl ⟨rfl,_,rfl⟩,?_,?_⟩
     · exact af (af (af (af (af HC.out hlC 0 _) hlC 1 _) hlC 2 _) hlC 3 _) hlC 4 _
     · have hq:w.heap.size≤S:=by have:=HS.out;omega
       exact ab (ab (ab (ab (ab HG.out hq 0 _) hq 1 _) hq 2 _) hq 3 _) hq 4 _
   · go_wp2
     have hfin:=heap_set (heap_set (heap_set (heap_set (heap_set HX.out 0 (.int .i64 1)) 1 (.bool true)) 2 (.string ⟨#[]⟩)) 3 (.slice none 0 0)) 4 (.slice none 0 0);refine aw rfl rfl rfl ⟨_,_,_,rfl⟩ ⟨_,_,_,rfl⟩ hfin ⟨_,rfl,.inl ⟨rfl,_,rfl⟩,?_,?_⟩
     · exact af (af (af (af (af HC.out hlC 0 _) hlC 1 _) hlC 2 _) hlC 3 _) hlC 4 _
     · have hq:w.heap.size≤S:=by have:=HS.out;omega
       exact ab (ab (ab (ab (ab HG.out hq 0 _) hq 1 _) hq 2 _) hq 3 _) hq 4 _
 · go_enter func38,ntmps38
   rcases h23 with rfl | rfl
   · go_wp2_with fail
     generalize w.alloc (.cells #[.int .i64 0,.bool false,.string ⟨#[]⟩,.slice none 0 0,.slice none 0 0] 69)=w1 at *;refine (aa C ao n cap w1 6 (by omega) (by omega) hch).mono ?_;rintro e w2 ⟨r,hr,rfl,hch2,hg2,-⟩;have hX2:=(hg2.block S (lt_of_heap hX) (fun e=>by have:=Option.some.inj e;omega)).trans hX;have hgr2:=grown_trans hgr hg2;have hr0:(0:Int)≤(r:Int):=by omega
     have hr6:(r:Int)<6:=by omega
     obtain ⟨y,hy⟩:∃y:Int,(r:Int)-2=y:=⟨_,rfl⟩
     have hw:=aD y (by omega)
     go_wp2_with fail
     refine (ae y (by omega) (by omega) _).mono ?_;rintro e w3 ⟨rfl,hb⟩;have hX3:=(hb.block S (lt_of_heap hX2)).trans hX2;have HC:=hid (hch2.call hb);have HG:=hid (ad hgr2 hb);have HW:=hid hw;clear hw;generalize (y:Rat)=q at *;obtain ⟨tq,htq⟩:∃tq,TX q=tq:=⟨_,rfl⟩
     rw[htq];have HTQ:=hid htq;have f0:=heap_cell hX3 0;have fz0:=heap_fz hX3 0;have f1:=heap_cell hX3 1;have fz1:=heap_fz hX3 1;have f2:=heap_cell hX3 2;have fz2:=heap_fz hX3 2;have f3:=heap_cell hX3 3;have fz3:=heap_fz hX3 3;have f4:=heap_cell hX3 4;have fz4:=heap_fz hX3 4;have HX:=hid hX3;clear htq hch hgr hX hX2 hX3 hch2 hg2 hS hgr2 hb hr0 hr6 hy
     go_wp2
     have hfin:=heap_set (heap_set (heap_set (heap_set (heap_set HX.out 0 (.int .i64 2)) 1 (.bool false)) 2 (.string tq)) 3 (.slice none 0 0)) 4 (.slice none 0 0);refine aw rfl rfl rfl ⟨_,_,_,rfl⟩ ⟨_,_,_,rfl⟩ hfin ⟨_,rfl,.inr (.inl ⟨by omega,q,HW.out,by rw[HTQ.out];rfl⟩),?_,?_⟩
     · exact af (af (af (af (af HC.out hlC 0 _) hlC 1 _) hlC 2 _) hlC 3 _) hlC 4 _
     · have hq:w.heap.size≤S:=by have:=HS.out;omega
       exact ab (ab (ab (ab (ab HG.out hq 0 _) hq 1 _) hq 2 _) hq 3 _) hq 4 _
   · go_wp2_with fail
     generalize w.alloc (.cells #[.int .i64 0,.bool false,.string ⟨#[]⟩,.slice none 0 0,.slice none 0 0] 69)=w1 at *;refine (aa C ao n cap w1 6 (by omega) (by omega) hch).mono ?_;rintro e w2 ⟨r,hr,rfl,hch2,hg2,-⟩;have hX2:=(hg2.block S (lt_of_heap hX) (fun e=>by have:=Option.some.inj e;omega)).trans hX;have hgr2:=grown_trans hgr hg2;have hr0:(0:Int)≤(r:Int):=by omega
     have hr6:(r:Int)<6:=by omega
     obtain ⟨y,hy⟩:∃y:Int,(r:Int)-2=y:=⟨_,rfl⟩
     have hw:=aD y (by omega)
     go_wp2_with fail
     refine (ae y (by omega) (by omega) _).mono ?_;rintro e w3 ⟨rfl,hb⟩;have hX3:=(hb.block S (lt_of_heap hX2)).trans hX2;have HC:=hid (hch2.call hb);have HG:=hid (ad hgr2 hb);have HW:=hid hw;clear hw;generalize (y:Rat)=q at *;obtain ⟨tq,htq⟩:∃tq,TX q=tq:=⟨_,rfl⟩
     rw[htq];have HTQ:=hid htq;have f0:=heap_cell hX3 0;have fz0:=heap_fz hX3 0;have f1:=heap_cell hX3 1;have fz1:=heap_fz hX3 1;have f2:=heap_cell hX3 2;have fz2:=heap_fz hX3 2;have f3:=heap_cell hX3 3;have fz3:=heap_fz hX3 3;have f4:=heap_cell hX3 4;have fz4:=heap_fz hX3 4;have HX:=hid hX3;clear htq hch hgr hX hX2 hX3 hch2 hg2 hS hgr2 hb hr0 hr6 hy
     go_wp2
     have hfin:=heap_set (heap_set (heap_set (heap_set (heap_set HX.out 0 (.int .i64 3)) 1 (.bool false)) 2 (.string tq)) 3 (.slice none 0 0)) 4 (.slice none 0 0);refine aw rfl rfl rfl ⟨_,_,_,rfl⟩ ⟨_,_,_,rfl⟩ hfin ⟨_,rfl,.inr (.inl ⟨by omega,q,HW.out,by rw[HTQ.out];rfl⟩),?_,?_⟩
     · exact af (af (af (af (af HC.out hlC 0 _) hlC 1 _) hlC 2 _) hlC 3 _) hlC 4 _
     · have hq:w.heap.size≤S:=by have:=HS.out;omega
       exact ab (ab (ab (ab (ab HG.out hq 0 _) hq 1 _) hq 2 _) hq 3 _) hq 4 _
 · go_enter func38,ntmps38
   go_wp2_with fail
   generalize w.alloc (.cells #[.int .i64 0,.bool false,.string ⟨#[]⟩,.slice none 0 0,.slice none 0 0] 69)=w1 at *;refine (aa C ao n cap w1 3 (by omega) (by omega) hch).mono ?_;rintro e w2 ⟨r,hr,rfl,hch2,hg2,-⟩;have hX2:=(hg2.block S (lt_of_heap hX) (fun e=>by have:=Option.some.inj e;omega)).trans hX;have hgr2:=grown_trans hgr hg2;have hw:=aD (r:Int) (by omega)
   go_wp2_with fail
   refine (ae (r:Int) (by omega) (by omega) _).mono ?_;rintro e w3 ⟨rfl,hb⟩;have hX3:=(hb.block S (lt_of_heap hX2)).trans hX2;have HW:=hid hw;have hch3:=hch2.call hb;have hgr3:=ad hgr2 hb;have hsw:w.heap.size≤S:=by have:=HS.out;omega
   clear hw;generalize ((r:Int):Rat)=z at *;have hzs:(TX z).size≤1000:=by have:=DS.sz HW.out.1;omega
   have hzi:=az HW.out.2;obtain ⟨tz,htz⟩:∃tz,TX z=tz:=⟨_,rfl⟩
   rw[htz] at hzs hzi ⊢;have HTZ:=hid htz;have hA5:=alloc_far' w3 (.cells #[.int .i64 4,.bool false,.string tz,.slice none 0 0,.slice none 0 0] 69);have hSM:SM S w3.heap.size C ao n cap tz (.slice none 0 0) (.slice none 0 0) w (w3.alloc (.cells #[.int .i64 4,.bool false,.string tz,.slice none 0 0,.slice none 0 0] 69)):=⟨(hA5.block _ (lt_of_heap hX3)).trans hX3,heap_alloc_new w3 _,hch3.call hA5,ad hgr3 hA5,lt_of_heap hX3,hlC,hsw⟩
   have HM:=hid hSM;clear htz hch hgr hX hX2 hX3 hch2 hg2 hS hgr2 hb hch3 hgr3 hA5 hSM hsw;generalize hRR:w3.heap.size=R at *;have HRR:=hid hRR;clear hRR
   go_wp2_with fail
   rw[HRR.out];generalize w3.alloc (.cells #[.int .i64 4,.bool false,.string tz,.slice none 0 0,.slice none 0 0] 69)=w5 at *;refine aF (dn C ao n cap) [[],[],[1],[1,2],[],[1,2,3,4],[1,2,3,4,5],[0,1,2,3,4,5,6],[0,1,2,3,4,5,6,7],[0,1,2,3,4,5,6,7,8],[0,1,2,3,4,5,6,7,8],[0,1,2,3,4,5,6,7,8,9]] (fun W=>SM S R C ao n cap tz (.slice none 0 0) (.slice none 0 0) w W) (fun _=>True) ?_
   iterate 2
    apply a_con
    · intro x;go_simp;done
    · intro x W R hW hF hR;have c0:=heap_cell hW.b5 0;have c1:=heap_cell hW.b5 1;have c2:=heap_cell hW.b5 2;have c3:=heap_cell hW.b5 3;have c4:=heap_cell hW.b5 4;clear hF;unfold addAt
      go_simp
      simp only[addUpon];exact hR _ (ChR.refl _)
    simp only[Act.put,List.setIfInBounds_toArray,List.set_cons_zero,List.set_cons_succ]
   refine aO (fun u=>∃r:Nat,r<3∧u=.int .i64 r) (fun _ _=>True) (fun _ _ _ h _=>h) ?_ ?_ ?_
   · intro x;go_simp;done
   · intro x W R' hW hF hR;clear hF;unfold addAt
     go_simp
     simp only[addUpon];refine (aa C ao n cap W 3 (by omega) (by omega) hW.ch).mono ?_;rintro e w4 ⟨r,hr,rfl,hch,hg,-⟩;exact ⟨_,rfl,hR _ _ ⟨r,hr,rfl⟩ trivial ⟨hg,fun _=>hch⟩⟩
   simp only[Act.put,List.setIfInBounds_toArray,List.set_cons_zero,List.set_cons_succ,List.length_cons,List.length_nil,Nat.zero_add,Nat.reduceAdd];refine aO (fun u=>∃q:Rat,Wh q∧u=.string (TX q)) (fun _ _=>True) (fun _ _ _ h _=>h) ?_ ?_ ?_
   · intro x;go_simp;done
   · intro x W R' hW hF hR;obtain ⟨r,hr,hx2⟩:=hF.1.1 rfl;clear hF;simp only[hx2];unfold addAt
     go_simp
     simp only[addUpon];refine (ae (r:Int) (by omega) (by omega) W).mono ?_;rintro e w4 ⟨rfl,hb⟩;exact ⟨_,rfl,hR _ _ ⟨_,aD (r:Int) (by omega),rfl⟩ trivial (ChR.of hb)⟩
   simp only[Act.put,List.setIfInBounds_toArray,List.set_cons_zero,List.set_cons_succ,List.length_cons,List.length_nil,Nat.zero_add,Nat.reduceAdd];apply a_con
   · intro x;go_simp;done
   · intro x W R hW hF hR;have c0:=heap_cell hW.b5 0;have c1:=heap_cell hW.b5 1;have c2:=heap_cell hW.b5 2;have c3:=heap_cell hW.b5 3;have c4:=heap_cell hW.b5 4;clear hF;unfold addAt
     go_simp
     simp only[addUpon];exact hR _ (ChR.refl _)
   simp only[Act.put,List.setIfInBounds_toArray,List.set_cons_zero,List.set_cons_succ];refine aO (fun u=>∃r:Nat,r<3∧u=.int .i64 r) (fun _ _=>True) (fun _ _ _ h _=>h) ?_ ?_ ?_
   · intro x;go_simp;done
   · intro x W R' hW hF hR;clear hF;unfold addAt
     go_simp
     simp only[addUpon];refine (aa C ao n cap W 3 (by omega) (by omega) hW.ch).mono ?_;rintro e w4 ⟨r,hr,rfl,hch,hg,-⟩;exact ⟨_,rfl,hR _ _ ⟨r,hr,rfl⟩ trivial ⟨hg,fun _=>hch⟩⟩
   simp only[Act.put,List.setIfInBounds_toArray,List.set_cons_zero,List.set_cons_succ,List.length_cons,List.length_nil,Nat.zero_add,Nat.reduceAdd];refine aO (fun u=>∃q:Rat,Wh q∧u=.string (TX q)) (fun _ _=>True) (fun _ _ _ h _=>h) ?_ ?_ ?_
   · intro x;go_simp;done
   · intro x W R' hW hF hR;obtain ⟨r,hr,hx2⟩:=hF.1.1 rfl;clear hF;simp only[hx2];unfold addAt
     go_simp
     simp only[addUpon];refine (ae (r:Int) (by omega) (by omega) W).mono ?_;rintro e w4 ⟨rfl,hb⟩;exact ⟨_,rfl,hR _ _ ⟨_,aD (r:Int) (by omega),rfl⟩ trivial (ChR.of hb)⟩
   simp only[Act.put,List.setIfInBounds_toArray,List.set_cons_zero,List.set_cons_succ,List.length_cons,List.length_nil,Nat.zero_add,Nat.reduceAdd];refine aO (fun u=>∃v0 v1,u=.tuple #[v0,v1]) (fun u W=>∃(y x:Rat) (k v:Value),u=.tuple #[ah 4 false tz k v,.int .i64 0]∧Wh y∧Wh x∧SKV R tz (TX y) (TX x) k v W) (fun _ _ _ h hb=>let ⟨y,x,k,v,h1,h2,h3,h4⟩:=h;⟨y,x,k,v,h1,h2,h3,h4.grown hb.1 (Nat.le_of_lt (Nat.lt_trans hlC (HM.out.lt)))⟩) ?_ ?_ ?_
   · intro x;go_simp;done
   · intro x W R' hW hF hR;obtain ⟨qx,hqx,hx6⟩:=hF.1.1 rfl;obtain ⟨qy,hqy,hx3⟩:=hF.2.2.2.1.1 rfl;clear hF;simp only[hx6,hx3];have hst:=bK tz (TX qy) (TX qx) W hzs hzi (by have:=DS.sz hqy.1;omega) (az hqy.2) (by have:=DS.sz hqx.1;omega) (az hqx.2);unfold ah noS at hst;have hRW:=lt_of_heap hW.b5;unfold addAt
     go_simp
     simp only[addUpon];refine hst.mono ?_;rintro e w4 ⟨k,v,rfl,hk,hb⟩;exact ⟨_,rfl,hR _ _ ⟨_,_,rfl⟩ ⟨qy,qx,k,v,rfl,hqy,hqx,hk.mono (by omega)⟩ (ChR.of hb)⟩
   simp only[Act.put,List.setIfInBounds_toArray,List.set_cons_zero,List.set_cons_succ,List.length_cons,List.length_nil,Nat.zero_add,Nat.reduceAdd];refine a_freX (fun x=>x 8=x 7) (fun x x' hx h=>by rw[←hx 8 (.inl rfl),←hx 7 (.inr (List.contains_iff_mem.1 rfl))];exact h) ?_ ?_ ?_
   · intro x;go_simp;done
   · intro x W R' hW hF hR;clear hF hW;unfold addAt
     go_simp
     simp only[addUpon];refine hR _ _ ?_ (ChR.refl _);show updX x 8 _ 8=updX x 8 _ 7;rw[updX_self,updX_ne (i:=8) (j:=7) _ _ (by decide)]
   simp only[Act.put,List.setIfInBounds_toArray,List.set_cons_zero,List.set_cons_succ,List.length_cons,List.length_nil,Nat.zero_add,Nat.reduceAdd];refine a_freX (fun x=>∃v0 v1,x 7=.tuple #[v0,v1]∧x 9=v0) (fun x x' hx h=>by rw[←hx 9 (.inl rfl),←hx 7 (.inr (List.contains_iff_mem.1 rfl))];exact h) ?_ ?_ ?_
   · intro x;go_simp;done
   · intro x W R' hW hF hR;have h8:=hF.1.1 rfl;obtain ⟨v0,v1,h7⟩:=hF.2.1.1 rfl;simp only[AK.free] at h8 h7;clear hF hW;simp only[h8,h7];unfold addAt
     go_simp
     simp only[addUpon];refine hR _ _ ?_ (ChR.refl _);refine ⟨v0,v1,?_,?_⟩
     · show updX x 9 _ 7=_;rw[updX_ne (i:=9) (j:=7) _ _ (by decide),h7]
     · show updX x 9 _ 9=_;rw[updX_self]
   simp only[Act.put,List.setIfInBounds_toArray,List.set_cons_zero,List.set_cons_succ,List.length_cons,List.length_nil,Nat.zero_add,Nat.reduceAdd];refine a_freX (fun _=>True) (fun x x' hx h=>trivial) ?_ ?_ ?_
   · intro x;go_simp;done
   · intro x W R' hW hF hR;have h8:=hF.2.1.1 rfl;obtain ⟨v0,v1,h7⟩:=hF.2.2.1.1 rfl;simp only[AK.free] at h8 h7;clear hF hW;simp only[h8,h7];unfold addAt
     go_simp
     simp only[addUpon];exact hR _ _ trivial (ChR.refl _)
   simp only[Act.put,List.setIfInBounds_toArray,List.set_cons_zero,List.set_cons_succ,List.length_cons,List.length_nil,Nat.zero_add,Nat.reduceAdd];refine a_wrt (fun _ W=>∃(y x:Rat) (k v:Value),SM S R C ao n cap tz k v w W∧Wh y∧Wh x∧SKV R tz (TX y) (TX x) k v W) (fun _ _ _ h hb=>let ⟨y,x,k,v,h1,h2,h3,h4⟩:=h;⟨y,x,k,v,h1.rel hb,h2,h3,h4.grown hb.1 (Nat.le_of_lt (Nat.lt_trans hlC (HM.out.lt)))⟩) (fun x x' w h hT=>hT) ?_ ?_ ?_
   · intro x;go_simp;done
   · intro x W R' hW hF hD hR;obtain ⟨v0,v1,h7a,h9⟩:=hF.2.1.1 rfl;obtain ⟨qy,qx,k,v,h7,hqy,hqx,hk⟩:=hF.2.2.2.1.2 rfl rfl rfl;rw[h7] at h7a;injection h7a with h7b;injection h7b with h7c;injection h7c with h7d _;clear hF;rw[←h7d] at h9;obtain ⟨⟨ak,nk,ck,rfl⟩,⟨av,nv,cv,rfl⟩⟩:=hk.sl;unfold ah at h9;simp only[h9];have f0:=heap_cell hW.b5 0;have fz0:=heap_fz hW.b5 0;have f1:=heap_cell hW.b5 1;have fz1:=heap_fz hW.b5 1;have f2:=heap_cell hW.b5 2;have fz2:=heap_fz hW.b5 2;have f3:=heap_cell hW.b5 3;have fz3:=heap_fz hW.b5 3;have f4:=heap_cell hW.b5 4;have fz4:=heap_fz hW.b5 4;have hM5:=((((hW.set 0 (.int .i64 4) _ _ rfl).set 1 (.bool false) _ _ rfl).set 2 (.string tz) _ _ rfl).set 3 (.slice ak nk ck) _ _ rfl).set 4 (.slice av nv cv) _ _ rfl;have hk5:=((((hk.set (Nat.le_refl R) 0 (.int .i64 4)).set (Nat.le_refl R) 1 (.bool false)).set (Nat.le_refl R) 2 (.string tz)).set (Nat.le_refl R) 3 (.slice ak nk ck)).set (Nat.le_refl R) 4 (.slice av nv cv);unfold addAt
     go_simp
     simp only[addUpon];exact hR _ _ ⟨qy,qx,_,_,hM5,hqy,hqx,hk5⟩ trivial (by simp[World.setCell])
   simp only[Act.put];refine a_nil (by kernel_rfl) (by kernel_rfl) (by kernel_rfl) (fun _ _ h hb=>h.rel hb) (fun _ _ _ _=>trivial) (fun _ _=>trivial) (HM.out.rel (ChR.of (Below.refl _ _).drew)) ?_;intro x W hE hW hF hD;clear hD;obtain ⟨qy,qx,k,v,h5,hqy,hqx,hk⟩:=hF.1.2 rfl;obtain ⟨⟨ak,nk,ck,rfl⟩,⟨av,nv,cv,rfl⟩⟩:=hk.sl;have f0:=heap_cell h5.b4 0;have fz0:=heap_fz h5.b4 0;have f1:=heap_cell h5.b4 1;have fz1:=heap_fz h5.b4 1;have f2:=heap_cell h5.b4 2;have fz2:=heap_fz h5.b4 2;have f3:=heap_cell h5.b4 3;have fz3:=heap_fz h5.b4 3;have f4:=heap_cell h5.b4 4;have fz4:=heap_fz h5.b4 4;have g0:=heap_cell h5.b5 0;have g1:=heap_cell h5.b5 1;have g2:=heap_cell h5.b5 2;have g3:=heap_cell h5.b5 3;have g4:=heap_cell h5.b5 4;have hSR:=h5.lt;have hCS:=h5.ltC;have hWS:=h5.ws;have H5:=hid h5;have HK:=hid hk;clear hF hW h5 hk
   go_wp2
   have hfin:=heap_set (heap_set (heap_set (heap_set (heap_set H5.out.b4 0 (.int .i64 4)) 1 (.bool false)) 2 (.string tz)) 3 (.slice ak nk ck)) 4 (.slice av nv cv);refine aw rfl rfl rfl ⟨_,_,_,rfl⟩ ⟨_,_,_,rfl⟩ hfin ⟨_,rfl,.inr (.inr ⟨rfl,z,qy,qx,_,_,HW.out,hqy,hqx,by rw[HTZ.out],?_⟩),?_,?_⟩
   · rw[HTZ.out];have hq:S≤R:=by omega
     exact (((((HK.out.set hq 0 _).set hq 1 _).set hq 2 _).set hq 3 _).set hq 4 _).mono (by omega)
   · exact af (af (af (af (af H5.out.ch hCS 0 _) hCS 1 _) hCS 2 _) hCS 3 _) hCS 4 _
   · exact ab (ab (ab (ab (ab H5.out.gr hWS 0 _) hWS 1 _) hWS 2 _) hWS 3 _) hWS 4 _
end Go.Proofs.YthefknoicelhaaaGreatDoor.Se

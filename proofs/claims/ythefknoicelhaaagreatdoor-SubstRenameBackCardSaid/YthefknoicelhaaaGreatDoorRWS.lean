import Derived.Test.YthefknoicelhaaaGreatDoorRWR
set_option maxRecDepth 100000
set_option maxHeartbeats 40000000
open Go.Lib (hid)
namespace Go.Proofs.YthefknoicelhaaaGreatDoor.Se
open Go.RowKit Nmx Go.Proofs.Tryz
theorem GX.tm {C:Nat} {ao:Option Addr} {n cap gv:Nat} {w W:World} {D Z:Nat} {s:Int} {u:Value} (h:GX C ao n cap gv w W) (ht:TmAt w.heap.size D Z s u W):GP C ao n cap w D Z s (.returned u) W:=
 let ⟨g,c,ts,h1,h2,h3,h4,h5⟩:=ht;⟨g,c,ts,by rw[h1],h2,h3,h4,h5,h.ch,h.gr⟩
theorem TF.mono {C:Nat} {ao:Option Addr} {n cap gv cv:Nat} {dep:Int} {D Z D' Z':Nat} (h:TF C ao n cap gv cv dep D Z) (hd:D≤D') (hz:Z≤Z'):TF C ao n cap gv cv dep D' Z':=fun s w h1 h4 hx=>(h s w h1 h4 hx).mono fun _ _ hg=>hg.mono hd hz
theorem FF.mono {C:Nat} {ao:Option Addr} {n cap gv cv:Nat} {dep:Int} {D Z D' Z':Nat} (h:FF C ao n cap gv cv dep D Z) (hd:D≤D') (hz:Z≤Z'):FF C ao n cap gv cv dep D' Z':=fun w hx=>(h w hx).mono fun _ _ hg=>hg.mono hd hz
theorem dN (s:Int) (h:s=2∨s=3) (m:Nat) (h1:1≤m) (hm:m≤3) (ks:List Nd):NodeOk (ndE 14 m) ks (List.replicate m s) s:=by
 have:m=1∨m=2∨m=3:=by omega
 rcases h with rfl | rfl
 · rcases this with rfl | rfl | rfl
   · exact ac 14 ks [2] 2 (by decide) (by decide) (by decide) (by decide) (by decide) (by decide) (by decide) (by decide) (by decide) rfl (fun e=>absurd e (by decide))
   · exact ac 14 ks [2,2] 2 (by decide) (by decide) (by decide) (by decide) (by decide) (by decide) (by decide) (by decide) (by decide) rfl (fun e=>absurd e (by decide))
   · exact ac 14 ks [2,2,2] 2 (by decide) (by decide) (by decide) (by decide) (by decide) (by decide) (by decide) (by decide) (by decide) rfl (fun e=>absurd e (by decide))
 · rcases this with rfl | rfl | rfl
   · exact ac 14 ks [3] 3 (by decide) (by decide) (by decide) (by decide) (by decide) (by decide) (by decide) (by decide) (by decide) rfl (fun e=>absurd e (by decide))
   · exact ac 14 ks [3,3] 3 (by decide) (by decide) (by decide) (by decide) (by decide) (by decide) (by decide) (by decide) (by decide) rfl (fun e=>absurd e (by decide))
   · exact ac 14 ks [3,3,3] 3 (by decide) (by decide) (by decide) (by decide) (by decide) (by decide) (by decide) (by decide) (by decide) rfl (fun e=>absurd e (by decide))
theorem dW (ks:List Nd):NodeOk (ndE 18 2) ks [4,2] 2:=ac 18 ks [4,2] 2 (by decide) (by decide) (by decide) (by decide) (by decide) (by decide) (by decide) (by decide) (by decide) rfl (fun e=>absurd e (by decide))
theorem dX (ks:List Nd):NodeOk (ndE 19 3) ks [4,2,2] 4:=ac 19 ks [4,2,2] 4 (by decide) (by decide) (by decide) (by decide) (by decide) (by decide) (by decide) (by decide) (by decide) rfl (fun e=>absurd e (by decide))
theorem dY (ks:List Nd):NodeOk (ndE 20 1) ks [2] 4:=ac 20 ks [2] 4 (by decide) (by decide) (by decide) (by decide) (by decide) (by decide) (by decide) (by decide) (by decide) rfl (fun e=>absurd e (by decide))
structure DVX (C:Nat) (ao:Option Addr) (n cap gv R:Nat) (op:Int) (tq:ByteArray) (w W:World):Prop where
 gx:GX C ao n cap gv w W
 bx:W.heap[R]? =some (.cells #[.int .i64 op,.int .i64 0,.string ⟨#[]⟩,.string tq,.int .i64 0] 51 (0,0))
 ne:C<R
theorem DVX.rel {C:Nat} {ao:Option Addr} {n cap gv R:Nat} {op:Int} {tq:ByteArray} {w W W':World} (h:DVX C ao n cap gv R op tq w W) (hr:ChR C ao n cap W W'):DVX C ao n cap gv R op tq w W':=
 ⟨h.gx.rel hr,(hr.1.block R (lt_of_heap h.bx) (fun e=>by have:=Option.some.inj e;have:=h.ne;omega)).trans h.bx,h.ne⟩
def RF (C:Nat) (ao:Option Addr) (n cap gv cv:Nat) (dep:Int) (D Z:Nat):Prop:=
 ∀(sort:Int) (w:World),sort=2∨sort=3→GX C ao n cap gv w w→Calls prog 43 #[.pointer (some ⟨C,0,none⟩),.int .i64 sort,.int .i64 dep,.slice (some ⟨gv,0,none⟩) 8 cv] w (GP C ao n cap w D Z sort)
theorem dA {C:Nat} {ao:Option Addr} {n cap gv cv:Nat} {dep:Int} {D Z:Nat} (hd0:0<dep) (hd1:dep≤1000) (hz:Z≤100000) (hz7:7≤Z) (hD3:3≤D) (hF:FF C ao n cap gv cv (dep-1) D Z) (hT:TF C ao n cap gv cv (dep-1) D Z):RF C ao n cap gv cv dep (D+1) (1+3*Z):=by
 obtain ⟨i0,hi,hz0,hz1,hz2⟩:=info_parts cx;have hI:=bL hd0 hd1 hz hF hT;intro sort w hs hx;have hCS:=hx.ch.lt;have HX0:=hid hx;clear hx;rcases hs with rfl | rfl
 · go_enter func43,ntmps43
   go_wp2_with fail
   refine (aa C ao n cap w 10 (by omega) (by omega) HX0.out.ch).mono ?_;rintro e w1 ⟨r,hr,rfl,hc,hg,-⟩;have HX1:=hid (HX0.out.next hc hg);clear hc hg HX0;have hr10:r=0∨r=1∨r=2∨r=3∨r=4∨r=5∨r=6∨r=7∨r=8∨r=9:=by omega
   clear hr;rcases hr10 with rfl | rfl | rfl | rfl | rfl | rfl | rfl | rfl | rfl | rfl
   iterate 3
    · go_wp2_with fail
      refine (hT 2 w1 (by decide) (by decide) HX1.out.at).mono ?_;rintro e w2 ⟨g1,d1,ts1,rfl,k1,k2,k3,kt,kc,kg⟩;have HX2:=hid (HX1.out.next kc kg);have HT1:Hid (TmAt w.heap.size D Z 2 (.slice (some ⟨g1,0,none⟩) ts1.length (ts1.length+d1)) w2):=hid ⟨_,_,_,rfl,k1,k2,Nat.le_trans HX1.out.gr.size k3,kt⟩;obtain ⟨c1,hc1⟩:∃c,ts1.length+d1=c:=⟨_,rfl⟩
      obtain ⟨l1,hl1⟩:∃l,ts1.length=l:=⟨_,rfl⟩
      rw[hc1,hl1] at HT1 ⊢;clear hc1;clear hl1 k1 k2 k3 kt kc kg HX1;have hwz:=HX2.out.gr.size;have hrl:=World.ownsRow_lit (base:=w.heap.size) (e:=26) (size:=1) w2 #[.slice (some ⟨g1,0,none⟩) l1 c1] 1 hwz (by decide) rfl;have HTR:Hid (TRow w D Z 1 2 (.slice (some ⟨w2.heap.size,0,none⟩) 1 1) [.slice (some ⟨g1,0,none⟩) l1 c1] (w2.alloc (.cells #[.slice (some ⟨g1,0,none⟩) l1 c1] 26))):=hid ⟨hrl,rfl,fun u hu=>by rw[List.mem_singleton] at hu;subst hu;exact HT1.out.far (alloc_far' w2 _),fun e=>absurd e (by decide)⟩;have HX3:=hid (HX2.out.call (alloc_far' w2 (.cells #[.slice (some ⟨g1,0,none⟩) l1 c1] 26)));clear hrl HT1 HX2 hwz
      go_wp2_with fail
      generalize hgr:w2.heap.size=gr0 at *;generalize w2.alloc (.cells #[.slice (some ⟨g1,0,none⟩) l1 c1] 26)=w3 at *;clear hgr;refine (aa C ao n cap w3 3 (by omega) (by omega) HX3.out.ch).mono ?_;rintro e w4 ⟨m0,hm0,rfl,hc,hg,-⟩;have HX4:=hid (HX3.out.next hc hg);replace HTR:=hid (HTR.out.grown hg hCS);clear hc hg HX3;have hm3:m0≤2:=by omega
      clear hm0
      go_wp2
      go_loopw [10,11] (fun v i wr=>∃(k m:Nat) (us:List Value),i=.int .i64 m∧k+m≤3∧1≤k∧TRow w D Z k 2 v us wr∧GX C ao n cap gv w wr) (fun _ i _=>(intOf i).toNat)
      case atStart=>exact ⟨1,m0,_,rfl,by omega,Nat.le_refl 1,HTR.out,HX4.out⟩
      case round=>
       clear HTR HX4 hm3;obtain ⟨k,m,us,rfl,hkm,hk1,htr,hgx⟩:=hrel;have HTR:=hid htr;have HX50:=hid hgx;clear htr hgx
       by_cases hm:0<m
       · have hmI:(0:Int)<(m:Int):=by omega
         go_wp2_with fail
         refine (hT 2 wr (by decide) (by decide) HX50.out.at).mono ?_;rintro e w51 ⟨g50,d50,ts50,rfl,k1,k2,k3,kt,kc,kg⟩;have HX51:=hid (HX50.out.next kc kg);have HT50:Hid (TmAt w.heap.size D Z 2 (.slice (some ⟨g50,0,none⟩) ts50.length (ts50.length+d50)) w51):=hid ⟨_,_,_,rfl,k1,k2,Nat.le_trans HX50.out.gr.size k3,kt⟩;obtain ⟨c50,hc50⟩:∃c,ts50.length+d50=c:=⟨_,rfl⟩
         obtain ⟨l50,hl50⟩:∃l,ts50.length=l:=⟨_,rfl⟩
         rw[hc50,hl50] at HT50 ⊢;clear hc50;have HTR2:=hid (HTR.out.grown kg hCS);clear HTR hl50 k1 k2 k3 kt kc kg HX50;have hwz:=HX51.out.gr.size;have HTR3:=hid (HTR2.out.alloc (.cells #[.slice (some ⟨g50,0,none⟩) l50 c50] 26));have HT53:=hid (HT50.out.far (alloc_far' w51 (.cells #[.slice (some ⟨g50,0,none⟩) l50 c50] 26)));have HX53:=hid (HX51.out.call (alloc_far' w51 (.cells #[.slice (some ⟨g50,0,none⟩) l50 c50] 26)))
         go_wp2_with (at_builtin;go_loud (refine wpList_append_own _ rfl _ _ 83 rfl w.heap.size 26 i0 _ 1 24 underlying83 hi hz0 hz1 hz2 rfl (by decide) _ k us rfl HTR3.out.row ⟨w51.heap.size,0,none⟩ 1 1 [.slice (some ⟨g50,0,none⟩) l50 c50] rfl rfl (World.news_of_block (cs:=#[.slice (some ⟨g50,0,none⟩) l50 c50]) (t:=26) (fr:=(0,0)) (heap_alloc_new w51 _)) (by simp[Value.oneCell']) (by unfold maxLen;omega) (by omega) (by simp;omega) ?_))
         intro v' w54 hown' hgrow _;have HTR4:=hid (HTR3.out.push HT53.out hgrow hown');have HX54:=hid (HX53.out.own hgrow (fun j e=>(HTR3.out.row.lt j e).1) hCS);clear hown' hgrow HTR3 HTR2 HT53 HT50 HX53 HX51
         go_wp2
         go_roundw
         case rel=>exact ⟨k+1,m-1,us++[.slice (some ⟨g50,0,none⟩) l50 c50],by go_num,by omega,by omega,HTR4.out,HX54.out⟩
         case measure=>simp[intOf];omega
       · obtain rfl:m=0:=by omega
         have hop:=opN (s:=2) 14 (by rw[HTR.out.len];exact HTR.out.row) HTR.out.tms HTR.out.len hz (by omega) (by have:=HX50.out.lg;omega) (dN 2 (by decide) k hk1 (by omega)) (by decide) (by decide);clear HTR
         go_wp2_with fail
         refine (hop).mono ?_;rintro e w99 hv;have HG:=hid (HX50.out.fin (D':=(D+1)) (Z':=(1+3*Z)) (Below.refl _ _) hv (by omega) (by omega));obtain ⟨g99,c99,ts99,rfl,-⟩:=hv;obtain ⟨l99,hl99⟩:∃l,ts99.length=l:=⟨_,rfl⟩
         rw[hl99] at HG ⊢;clear hl99
         go_wp2
         go_ret
         obtain ⟨g98,c98,ts98,k0,k1⟩:=HG.out;exact ⟨g98,c98,ts98,k0,k1⟩
   iterate 2
    · go_wp2_with fail
      refine (au C ao n cap 2 w1 HX1.out.ch (by decide)).mono ?_;rintro e w2 ⟨q,hq,hqs,rfl,hc,hg⟩;have HX2:=hid (HX1.out.next hc hg);have HQ:=hid (ar 2 q hqs hq);clear hc hg hq hqs HX1;obtain ⟨tq,htq⟩:∃tq,TX q=tq:=⟨_,rfl⟩
      rw[htq];have HTQ:=hid htq;clear htq
      go_wp2_with fail
      refine (ai 2 tq w2).mono ?_;rintro e w3 ⟨g9,rfl,k1,k2,k3,k4⟩;have HX3:=hid (HX2.out.call k4);have HK:=hid k1;have hgz:C<g9:=Nat.lt_of_lt_of_le HX2.out.ch.lt k3;clear k1 k3 k4;have hl9:=k2;clear k2
      go_wp2_with fail
      refine (hT 2 w3 (by decide) (by decide) HX3.out.at).mono ?_;rintro e w4 ⟨g3,d3,ts3,rfl,k1,k2,k3,kt,kc,kg⟩;have HX4:=hid (HX3.out.next kc kg);have HT3:Hid (TmAt w.heap.size D Z 2 (.slice (some ⟨g3,0,none⟩) ts3.length (ts3.length+d3)) w4):=hid ⟨_,_,_,rfl,k1,k2,Nat.le_trans HX3.out.gr.size k3,kt⟩;have HK2:=hid (HK.out.grown kg hl9 (by omega));have hg9:=Nat.lt_of_lt_of_le hl9 kg.size;clear HK;obtain ⟨c3,hc3⟩:∃c,ts3.length+d3=c:=⟨_,rfl⟩
      obtain ⟨l3,hl3⟩:∃l,ts3.length=l:=⟨_,rfl⟩
      rw[hc3,hl3] at HT3 ⊢;clear hc3;clear hl3 k1 k2 k3 kt kc kg HX3;have hop:=dp (D:=D) (Z:=Z) g9 q (by unfold ap;rw[HTQ.out];exact HK2.out) hg9 (HQ.out.mono (by omega) (by omega)) HT3.out hz (by decide);clear HK2
      go_wp2_with fail
      refine (hop).mono ?_;rintro e w99 hv;have HG:=hid (HX4.out.fin (D':=(D+1)) (Z':=(1+3*Z)) (alloc_far' w4 _) hv (by omega) (by omega));obtain ⟨g99,c99,ts99,rfl,-⟩:=hv;obtain ⟨l99,hl99⟩:∃l,ts99.length=l:=⟨_,rfl⟩
      rw[hl99] at HG ⊢;clear hl99
      go_wp2
      go_ret
      obtain ⟨g98,c98,ts98,k0,k1⟩:=HG.out;exact ⟨g98,c98,ts98,k0,k1⟩
   · go_wp2_with fail
     refine (hI 2 w1 (by decide) (by decide) HX1.out.at).mono ?_;rintro e w99 hv;have HG:=hid ((hv.after HX1.out.gr).mono (D':=(D+1)) (Z':=(1+3*Z)) (by omega) (by omega));obtain ⟨g99,c99,ts99,rfl,-⟩:=hv;obtain ⟨l99,hl99⟩:∃l,ts99.length=l:=⟨_,rfl⟩
     rw[hl99] at HG ⊢;clear hl99
     go_wp2
     go_ret
     obtain ⟨g98,c98,ts98,k0,k1⟩:=HG.out;exact ⟨g98,c98,ts98,k0,k1⟩
   · go_wp2_with fail
     refine (aa C ao n cap w1 2 (by omega) (by omega) HX1.out.ch).mono ?_;rintro e w2 ⟨p,hp,rfl,hc,hg,-⟩;have HX2:=hid (HX1.out.next hc hg);clear hc hg HX1
     go_wp2_with fail
     refine (aa C ao n cap w2 5 (by omega) (by omega) HX2.out.ch).mono ?_;rintro e w3 ⟨p2,hp2,rfl,hc,hg,-⟩;have HX3:=hid (HX2.out.next hc hg);clear hc hg HX2;obtain ⟨op,hop⟩:∃op:Int,16+(p:Int)=op:=⟨_,rfl⟩
     have hop2:op=16∨op=17:=by omega
     obtain ⟨y,hy⟩:∃y:Int,1+(p2:Int)=y:=⟨_,rfl⟩
     have hy1:1≤y∧y≤5:=by omega
     go_wp2_with fail
     refine (ae y (by omega) (by omega) w3).mono ?_;rintro e w4 ⟨rfl,hb⟩;have HX4:=hid (HX3.out.call hb);have hwh:=aD y (by omega);have hnum:0<((y:Int):Rat).num:=by rw[Rat.num_intCast];omega
     have HND:Hid (∀ks,NodeOk ⟨op,0,⟨#[]⟩,TX (y:Rat),1⟩ ks [2] 2):=hid fun ks=>dx op _ ks hop2 hwh.2 hnum
     have hsz:(TX (y:Rat)).size≤60:=by have:=DS.sz hwh.1;omega
     generalize TX (y:Rat)=tq at *;clear hwh hnum hb hy hy1 HX3;have hwr:IntKind.i64.wrap (dep-1)=dep-1:=by rw[IntKind.wrap_i64];omega
     have hA5:=alloc_far' w4 (.cells #[.int .i64 op,.int .i64 0,.string ⟨#[]⟩,.string tq,.int .i64 0] 51);have HV:Hid (DVX C ao n cap gv w4.heap.size op tq w (w4.alloc (.cells #[.int .i64 op,.int .i64 0,.string ⟨#[]⟩,.string tq,.int .i64 0] 51))):=hid ⟨HX4.out.call hA5,heap_alloc_new w4 _,HX4.out.ch.lt⟩;clear hA5 HX4
     go_upto_region 15 with fail
     generalize w4.heap.size=R at *;generalize w4.alloc (.cells #[.int .i64 op,.int .i64 0,.string ⟨#[]⟩,.string tq,.int .i64 0] 51)=w77 at *;refine aF (dn C ao n cap) [[],[],[],[],[3],[],[1,2,3,4,5],[1,2,3,4,5,6],[0,1,2,3,4,5,6,7],[0,1,2,3,4,5,6,7,8]] (fun W=>DVX C ao n cap gv R op tq w W) (fun _=>True) ?_
     iterate 6
      apply a_con
      · intro x;go_simp;done
      · intro x W R hW hF hR;have c0:=heap_cell hW.bx 0;have c1:=heap_cell hW.bx 1;have c2:=heap_cell hW.bx 2;have c3:=heap_cell hW.bx 3;have c4:=heap_cell hW.bx 4;clear hF;unfold addAt
        go_simp
        simp only[addUpon];exact hR _ (ChR.refl _)
      simp only[Act.put,List.setIfInBounds_toArray,List.set_cons_zero,List.set_cons_succ]
     refine a_opq (fun u W=>TmAt w.heap.size D Z 2 u W) (fun _ _ _ h hb=>h.grown hb.1 hCS) ?_ ?_ ?_
     · intro x;go_simp;done
     · intro x W R' hW hF hR;clear hF;unfold addAt
       go_simp
       simp only[addUpon]
       try rw[hwr]
       refine (hT 2 W (by decide) (by decide) hW.gx.at).mono ?_;rintro e w4 ⟨g,c,ts,rfl,k1,k2,k3,kt,kc,kg⟩;exact ⟨_,rfl,hR _ _ ⟨g,c,ts,rfl,k1,k2,Nat.le_trans hW.gx.gr.size k3,kt⟩ ⟨kg,fun _=>kc⟩⟩
     simp only[Act.put,List.setIfInBounds_toArray,List.set_cons_zero,List.set_cons_succ,List.length_cons,List.length_nil,Nat.zero_add,Nat.reduceAdd];refine a_opq (fun u W=>∃K u1,u=.slice (some ⟨K,0,none⟩) 1 1∧W.heap[K]? =some (.cells #[u1] 26 (0,0))∧TmAt w.heap.size D Z 2 u1 W∧C<K) (fun _ _ _ h hb=>let ⟨K,u1,h1,h2,h3,h4⟩:=h;⟨K,u1,h1,(hb.1.block K (lt_of_heap h2) (fun e=>by have:=Option.some.inj e;omega)).trans h2,h3.grown hb.1 hCS,h4⟩) ?_ ?_ ?_
     · intro x;go_simp;done
     · intro x W R' hW hF hR;have h6:=hF.1.2 rfl rfl rfl;simp only[AK.fact] at h6;have h6b:=h6.far (alloc_far' W (.cells #[x 6] 26));obtain ⟨a6,n6,c6,hx6⟩:=h6.sl;have hCW:=hW.gx.ch.lt;clear hF;simp only[hx6];rw[hx6] at h6b;unfold addAt
       go_simp
       simp only[addUpon];exact hR _ _ ⟨W.heap.size,_,rfl,heap_alloc_new W _,h6b,hCW⟩ (ChR.of (alloc_far' W _))
     simp only[Act.put,List.setIfInBounds_toArray,List.set_cons_zero,List.set_cons_succ,List.length_cons,List.length_nil,Nat.zero_add,Nat.reduceAdd];refine a_opq (fun u W=>TmAt w.heap.size (D+1) (1+1*Z) 2 u W) (fun _ _ _ h hb=>h.grown hb.1 hCS) ?_ ?_ ?_
     · intro x;go_simp;done
     · intro x W R' hW hF hR;obtain ⟨K,u1,hx7,hK,⟨g,c,ts,rfl,k1,k2,k3,kt⟩,-⟩:=hF.1.2 rfl rfl rfl;have hk:=kds1 (t1:=ts) hK k1 k2;have hj:=join_tm (D:=D) (Z:=Z) ⟨op,0,⟨#[]⟩,tq,0⟩ (some ⟨K,0,none⟩) K 1 W hk (.cons kt .nil) (by simp;omega) (by simp) (HND.out _) (by show ¬op=5;omega) (by show ¬op=4;omega) hsz;unfold Nd.val at hj;simp only at hj;have hwW:=hW.gx.gr.size;clear hF;simp only[hx7];unfold addAt
       go_simp
       simp only[addUpon];refine hj.mono ?_;rintro e w4 ⟨g',c',ts',rfl,m1,m2,m3,mt,m4⟩;exact ⟨_,rfl,hR _ _ ⟨g',c',ts',rfl,m1,m2,Nat.le_trans hwW m3,mt⟩ (ChR.of m4)⟩
     simp only[Act.put,List.setIfInBounds_toArray,List.set_cons_zero,List.set_cons_succ,List.length_cons,List.length_nil,Nat.zero_add,Nat.reduceAdd];refine a_freX (fun x=>x 9=x 8) (fun x x' hx h=>by rw[←hx 9 (.inl rfl),←hx 8 (.inr (List.contains_iff_mem.1 rfl))];exact h) ?_ ?_ ?_
     · intro x;go_simp;done
     · intro x W R' hW hF hR;clear hF hW;unfold addAt
       go_simp
       simp only[addUpon];refine hR _ _ ?_ (ChR.refl _);show updX x 9 _ 9=updX x 9 _ 8;rw[updX_self,updX_ne (i:=9) (j:=8) _ _ (by decide)]
     simp only[Act.put,List.setIfInBounds_toArray,List.set_cons_zero,List.set_cons_succ,List.length_cons,List.length_nil,Nat.zero_add,Nat.reduceAdd];refine a_nil (by kernel_rfl) (by kernel_rfl) (by kernel_rfl) (fun _ _ h hb=>h.rel hb) (fun _ _ _ _=>trivial) (fun _ _=>trivial) (HV.out.rel (ChR.of (Below.refl _ _).drew)) ?_;intro x W hE hW hF hD;clear hD;have hY:=hF.2.1.2 rfl;have hx9:=hF.1.1;simp only[AK.free] at hx9;simp only[AK.fact] at hY;have HG:=hid (((hW rfl).gx.tm hY).mono (D':=(D+1)) (Z':=(1+3*Z)) (by omega) (by omega));obtain ⟨a8,n8,c8,hx8⟩:=hY.sl;rw[hx8] at HG hx9;clear hF hW hY;simp only[hx9]
     go_wp2
     go_ret
     exact HG.out
   · go_wp2_with fail
     refine (hT 4 w1 (by decide) (by decide) HX1.out.at).mono ?_;rintro e w2 ⟨g1,d1,ts1,rfl,k1,k2,k3,kt,kc,kg⟩;have HX2:=hid (HX1.out.next kc kg);have HT1:Hid (TmAt w.heap.size D Z 4 (.slice (some ⟨g1,0,none⟩) ts1.length (ts1.length+d1)) w2):=hid ⟨_,_,_,rfl,k1,k2,Nat.le_trans HX1.out.gr.size k3,kt⟩;obtain ⟨c1,hc1⟩:∃c,ts1.length+d1=c:=⟨_,rfl⟩
     obtain ⟨l1,hl1⟩:∃l,ts1.length=l:=⟨_,rfl⟩
     rw[hc1,hl1] at HT1 ⊢;clear hc1;clear hl1 k1 k2 k3 kt kc kg HX1
     go_wp2_with fail
     refine (hT 2 w2 (by decide) (by decide) HX2.out.at).mono ?_;rintro e w3 ⟨g2,d2,ts2,rfl,k1,k2,k3,kt,kc,kg⟩;have HX3:=hid (HX2.out.next kc kg);have HT2:Hid (TmAt w.heap.size D Z 2 (.slice (some ⟨g2,0,none⟩) ts2.length (ts2.length+d2)) w3):=hid ⟨_,_,_,rfl,k1,k2,Nat.le_trans HX2.out.gr.size k3,kt⟩;replace HT1:=hid (HT1.out.grown kg hCS);obtain ⟨c2,hc2⟩:∃c,ts2.length+d2=c:=⟨_,rfl⟩
     obtain ⟨l2,hl2⟩:∃l,ts2.length=l:=⟨_,rfl⟩
     rw[hc2,hl2] at HT2 ⊢;clear hc2;clear hl2 k1 k2 k3 kt kc kg HX2
     go_wp2_with fail
     refine (op2 18 HT1.out HT2.out hz dW (by decide) (by decide)).mono ?_;rintro e w99 hv;have HG:=hid (HX3.out.fin (D':=(D+1)) (Z':=(1+3*Z)) (alloc_far' w3 _) hv (by omega) (by omega));obtain ⟨g99,c99,ts99,rfl,-⟩:=hv;obtain ⟨l99,hl99⟩:∃l,ts99.length=l:=⟨_,rfl⟩
     rw[hl99] at HG ⊢;clear hl99
     go_wp2
     go_ret
     obtain ⟨g98,c98,ts98,k0,k1⟩:=HG.out;exact ⟨g98,c98,ts98,k0,k1⟩
   · go_wp2_with fail
     refine (au C ao n cap 2 w1 HX1.out.ch (by decide)).mono ?_;rintro e w2 ⟨q,hq,hqs,rfl,hc,hg⟩;have HX2:=hid (HX1.out.next hc hg);have HQ:=hid (ar 2 q hqs hq);clear hc hg hq hqs HX1;obtain ⟨tq,htq⟩:∃tq,TX q=tq:=⟨_,rfl⟩
     rw[htq];have HTQ:=hid htq;clear htq
     go_wp2_with fail
     refine (ai 2 tq w2).mono ?_;rintro e w3 ⟨g9,rfl,k1,k2,k3,k4⟩;have hv:VG w2 1 1 2 (.returned (.slice (some ⟨g9,0,none⟩) 1 1)) w3:=⟨g9,0,[ap 2 q],rfl,by unfold ap;rw[HTQ.out];exact k1,k2,k3,HQ.out,k4⟩
     have HG:=hid (HX2.out.fin (D':=(D+1)) (Z':=(1+3*Z)) (Below.refl _ _) hv (by omega) (by omega));clear hv k1 k2 k3 k4
     go_wp2
     go_ret
     exact HG.out
   · go_wp2_with fail
     refine (ag C ao n cap 2 gv cv w1 HX1.out.ch (by decide) (by decide) HX1.out.vs HX1.out.lg).mono ?_;rintro e w99 hv;have HG:=hid ((hv.after HX1.out.gr).mono (D':=(D+1)) (Z':=(1+3*Z)) (by omega) (by omega));obtain ⟨g99,c99,ts99,rfl,-⟩:=hv;obtain ⟨l99,hl99⟩:∃l,ts99.length=l:=⟨_,rfl⟩
     rw[hl99] at HG ⊢;clear hl99
     go_wp2
     go_ret
     obtain ⟨g98,c98,ts98,k0,k1⟩:=HG.out;exact ⟨g98,c98,ts98,k0,k1⟩
 · go_enter func43,ntmps43
   go_wp2_with fail
   refine (aa C ao n cap w 10 (by omega) (by omega) HX0.out.ch).mono ?_;rintro e w1 ⟨r,hr,rfl,hc,hg,-⟩;have HX1:=hid (HX0.out.next hc hg);clear hc hg HX0;have hr10:r=0∨r=1∨r=2∨r=3∨r=4∨r=5∨r=6∨r=7∨r=8∨r=9:=by omega
   clear hr;rcases hr10 with rfl | rfl | rfl | rfl | rfl | rfl | rfl | rfl | rfl | rfl
   iterate 3
    · go_wp2_with fail
      refine (hT 3 w1 (by decide) (by decide) HX1.out.at).mono ?_;rintro e w2 ⟨g1,d1,ts1,rfl,k1,k2,k3,kt,kc,kg⟩;have HX2:=hid (HX1.out.next kc kg);have HT1:Hid (TmAt w.heap.size D Z 3 (.slice (some ⟨g1,0,none⟩) ts1.length (ts1.length+d1)) w2):=hid ⟨_,_,_,rfl,k1,k2,Nat.le_trans HX1.out.gr.size k3,kt⟩;obtain ⟨c1,hc1⟩:∃c,ts1.length+d1=c:=⟨_,rfl⟩
      obtain ⟨l1,hl1⟩:∃l,ts1.length=l:=⟨_,rfl⟩
      rw[hc1,hl1] at HT1 ⊢;clear hc1;clear hl1 k1 k2 k3 kt kc kg HX1;have hwz:=HX2.out.gr.size;have hrl:=World.ownsRow_lit (base:=w.heap.size) (e:=26) (size:=1) w2 #[.slice (some ⟨g1,0,none⟩) l1 c1] 1 hwz (by decide) rfl;have HTR:Hid (TRow w D Z 1 3 (.slice (some ⟨w2.heap.size,0,none⟩) 1 1) [.slice (some ⟨g1,0,none⟩) l1 c1] (w2.alloc (.cells #[.slice (some ⟨g1,0,none⟩) l1 c1] 26))):=hid ⟨hrl,rfl,fun u hu=>by rw[List.mem_singleton] at hu;subst hu;exact HT1.out.far (alloc_far' w2 _),fun e=>absurd e (by decide)⟩;have HX3:=hid (HX2.out.call (alloc_far' w2 (.cells #[.slice (some ⟨g1,0,none⟩) l1 c1] 26)));clear hrl HT1 HX2 hwz
      go_wp2_with fail
      generalize hgr:w2.heap.size=gr0 at *;generalize w2.alloc (.cells #[.slice (some ⟨g1,0,none⟩) l1 c1] 26)=w3 at *;clear hgr;refine (aa C ao n cap w3 3 (by omega) (by omega) HX3.out.ch).mono ?_;rintro e w4 ⟨m0,hm0,rfl,hc,hg,-⟩;have HX4:=hid (HX3.out.next hc hg);replace HTR:=hid (HTR.out.grown hg hCS);clear hc hg HX3;have hm3:m0≤2:=by omega
      clear hm0
      go_wp2
      go_loopw [10,11] (fun v i wr=>∃(k m:Nat) (us:List Value),i=.int .i64 m∧k+m≤3∧1≤k∧TRow w D Z k 3 v us wr∧GX C ao n cap gv w wr) (fun _ i _=>(intOf i).toNat)
      case atStart=>exact ⟨1,m0,_,rfl,by omega,Nat.le_refl 1,HTR.out,HX4.out⟩
      case round=>
       clear HTR HX4 hm3;obtain ⟨k,m,us,rfl,hkm,hk1,htr,hgx⟩:=hrel;have HTR:=hid htr;have HX50:=hid hgx;clear htr hgx
       by_cases hm:0<m
       · have hmI:(0:Int)<(m:Int):=by omega
         go_wp2_with fail
         refine (hT 3 wr (by decide) (by decide) HX50.out.at).mono ?_;rintro e w51 ⟨g50,d50,ts50,rfl,k1,k2,k3,kt,kc,kg⟩;have HX51:=hid (HX50.out.next kc kg);have HT50:Hid (TmAt w.heap.size D Z 3 (.slice (some ⟨g50,0,none⟩) ts50.length (ts50.length+d50)) w51):=hid ⟨_,_,_,rfl,k1,k2,Nat.le_trans HX50.out.gr.size k3,kt⟩;obtain ⟨c50,hc50⟩:∃c,ts50.length+d50=c:=⟨_,rfl⟩
         obtain ⟨l50,hl50⟩:∃l,ts50.length=l:=⟨_,rfl⟩
         rw[hc50,hl50] at HT50 ⊢;clear hc50;have HTR2:=hid (HTR.out.grown kg hCS);clear HTR hl50 k1 k2 k3 kt kc kg HX50;have hwz:=HX51.out.gr.size;have HTR3:=hid (HTR2.out.alloc (.cells #[.slice (some ⟨g50,0,none⟩) l50 c50] 26));have HT53:=hid (HT50.out.far (alloc_far' w51 (.cells #[.slice (some ⟨g50,0,none⟩) l50 c50] 26)));have HX53:=hid (HX51.out.call (alloc_far' w51 (.cells #[.slice (some ⟨g50,0,none⟩) l50 c50] 26)))
         go_wp2_with (at_builtin;go_loud (refine wpList_append_own _ rfl _ _ 83 rfl w.heap.size 26 i0 _ 1 24 underlying83 hi hz0 hz1 hz2 rfl (by decide) _ k us rfl HTR3.out.row ⟨w51.heap.size,0,none⟩ 1 1 [.slice (some ⟨g50,0,none⟩) l50 c50] rfl rfl (World.news_of_block (cs:=#[.slice (some ⟨g50,0,none⟩) l50 c50]) (t:=26) (fr:=(0,0)) (heap_alloc_new w51 _)) (by simp[Value.oneCell']) (by unfold maxLen;omega) (by omega) (by simp;omega) ?_))
         intro v' w54 hown' hgrow _;have HTR4:=hid (HTR3.out.push HT53.out hgrow hown');have HX54:=hid (HX53.out.own hgrow (fun j e=>(HTR3.out.row.lt j e).1) hCS);clear hown' hgrow HTR3 HTR2 HT53 HT50 HX53 HX51
         go_wp2
         go_roundw
         case rel=>exact ⟨k+1,m-1,us++[.slice (some ⟨g50,0,none⟩) l50 c50],by go_num,by omega,by omega,HTR4.out,HX54.out⟩
         case measure=>simp[intOf];omega
       · obtain rfl:m=0:=by omega
         have hop:=opN (s:=3) 14 (by rw[HTR.out.len];exact HTR.out.row) HTR.out.tms HTR.out.len hz (by omega) (by have:=HX50.out.lg;omega) (dN 3 (by decide) k hk1 (by omega)) (by decide) (by decide);clear HTR
         go_wp2_with fail
         refine (hop).mono ?_;rintro e w99 hv;have HG:=hid (HX50.out.fin (D':=(D+1)) (Z':=(1+3*Z)) (Below.refl _ _) hv (by omega) (by omega));obtain ⟨g99,c99,ts99,rfl,-⟩:=hv;obtain ⟨l99,hl99⟩:∃l,ts99.length=l:=⟨_,rfl⟩
         rw[hl99] at HG ⊢;clear hl99
         go_wp2
         go_ret
         obtain ⟨g98,c98,ts98,k0,k1⟩:=HG.out;exact ⟨g98,c98,ts98,k0,k1⟩
   iterate 2
    · go_wp2_with fail
      refine (au C ao n cap 3 w1 HX1.out.ch (by decide)).mono ?_;rintro e w2 ⟨q,hq,hqs,rfl,hc,hg⟩;have HX2:=hid (HX1.out.next hc hg);have HQ:=hid (ar 3 q hqs hq);clear hc hg hq hqs HX1;obtain ⟨tq,htq⟩:∃tq,TX q=tq:=⟨_,rfl⟩
      rw[htq];have HTQ:=hid htq;clear htq
      go_wp2_with fail
      refine (ai 3 tq w2).mono ?_;rintro e w3 ⟨g9,rfl,k1,k2,k3,k4⟩;have HX3:=hid (HX2.out.call k4);have HK:=hid k1;have hgz:C<g9:=Nat.lt_of_lt_of_le HX2.out.ch.lt k3;clear k1 k3 k4;have hl9:=k2;clear k2
      go_wp2_with fail
      refine (hT 3 w3 (by decide) (by decide) HX3.out.at).mono ?_;rintro e w4 ⟨g3,d3,ts3,rfl,k1,k2,k3,kt,kc,kg⟩;have HX4:=hid (HX3.out.next kc kg);have HT3:Hid (TmAt w.heap.size D Z 3 (.slice (some ⟨g3,0,none⟩) ts3.length (ts3.length+d3)) w4):=hid ⟨_,_,_,rfl,k1,k2,Nat.le_trans HX3.out.gr.size k3,kt⟩;have HK2:=hid (HK.out.grown kg hl9 (by omega));have hg9:=Nat.lt_of_lt_of_le hl9 kg.size;clear HK;obtain ⟨c3,hc3⟩:∃c,ts3.length+d3=c:=⟨_,rfl⟩
      obtain ⟨l3,hl3⟩:∃l,ts3.length=l:=⟨_,rfl⟩
      rw[hc3,hl3] at HT3 ⊢;clear hc3;clear hl3 k1 k2 k3 kt kc kg HX3;have hop:=dp (D:=D) (Z:=Z) g9 q (by unfold ap;rw[HTQ.out];exact HK2.out) hg9 (HQ.out.mono (by omega) (by omega)) HT3.out hz (by decide);clear HK2
      go_wp2_with fail
      refine (hop).mono ?_;rintro e w99 hv;have HG:=hid (HX4.out.fin (D':=(D+1)) (Z':=(1+3*Z)) (alloc_far' w4 _) hv (by omega) (by omega));obtain ⟨g99,c99,ts99,rfl,-⟩:=hv;obtain ⟨l99,hl99⟩:∃l,ts99.length=l:=⟨_,rfl⟩
      rw[hl99] at HG ⊢;clear hl99
      go_wp2
      go_ret
      obtain ⟨g98,c98,ts98,k0,k1⟩:=HG.out;exact ⟨g98,c98,ts98,k0,k1⟩
   · go_wp2_with fail
     refine (hI 3 w1 (by decide) (by decide) HX1.out.at).mono ?_;rintro e w99 hv;have HG:=hid ((hv.after HX1.out.gr).mono (D':=(D+1)) (Z':=(1+3*Z)) (by omega) (by omega));obtain ⟨g99,c99,ts99,rfl,-⟩:=hv;obtain ⟨l99,hl99⟩:∃l,ts99.length=l:=⟨_,rfl⟩
     rw[hl99] at HG ⊢;clear hl99
     go_wp2
     go_ret
     obtain ⟨g98,c98,ts98,k0,k1⟩:=HG.out;exact ⟨g98,c98,ts98,k0,k1⟩
   iterate 2
    · go_wp2_with fail
      refine (ag C ao n cap 3 gv cv w1 HX1.out.ch (by decide) (by decide) HX1.out.vs HX1.out.lg).mono ?_;rintro e w99 hv;have HG:=hid ((hv.after HX1.out.gr).mono (D':=(D+1)) (Z':=(1+3*Z)) (by omega) (by omega));obtain ⟨g99,c99,ts99,rfl,-⟩:=hv;obtain ⟨l99,hl99⟩:∃l,ts99.length=l:=⟨_,rfl⟩
      rw[hl99] at HG ⊢;clear hl99
      go_wp2
      go_ret
      obtain ⟨g98,c98,ts98,k0,k1⟩:=HG.out;exact ⟨g98,c98,ts98,k0,k1⟩
   · go_wp2_with fail
     refine (au C ao n cap 3 w1 HX1.out.ch (by decide)).mono ?_;rintro e w2 ⟨q,hq,hqs,rfl,hc,hg⟩;have HX2:=hid (HX1.out.next hc hg);have HQ:=hid (ar 3 q hqs hq);clear hc hg hq hqs HX1;obtain ⟨tq,htq⟩:∃tq,TX q=tq:=⟨_,rfl⟩
     rw[htq];have HTQ:=hid htq;clear htq
     go_wp2_with fail
     refine (ai 3 tq w2).mono ?_;rintro e w3 ⟨g9,rfl,k1,k2,k3,k4⟩;have hv:VG w2 1 1 3 (.returned (.slice (some ⟨g9,0,none⟩) 1 1)) w3:=⟨g9,0,[ap 3 q],rfl,by unfold ap;rw[HTQ.out];exact k1,k2,k3,HQ.out,k4⟩
     have HG:=hid (HX2.out.fin (D':=(D+1)) (Z':=(1+3*Z)) (Below.refl _ _) hv (by omega) (by omega));clear hv k1 k2 k3 k4
     go_wp2
     go_ret
     exact HG.out
   · go_wp2_with fail
     refine (ag C ao n cap 3 gv cv w1 HX1.out.ch (by decide) (by decide) HX1.out.vs HX1.out.lg).mono ?_;rintro e w99 hv;have HG:=hid ((hv.after HX1.out.gr).mono (D':=(D+1)) (Z':=(1+3*Z)) (by omega) (by omega));obtain ⟨g99,c99,ts99,rfl,-⟩:=hv;obtain ⟨l99,hl99⟩:∃l,ts99.length=l:=⟨_,rfl⟩
     rw[hl99] at HG ⊢;clear hl99
     go_wp2
     go_ret
     obtain ⟨g98,c98,ts98,k0,k1⟩:=HG.out;exact ⟨g98,c98,ts98,k0,k1⟩
theorem bg {C:Nat} {ao:Option Addr} {n cap gv cv:Nat} {dep:Int} {D Z:Nat} (hd0:0<dep) (hd1:dep≤1000) (hz:Z≤100000) (hz7:7≤Z) (hD3:3≤D) (hF:FF C ao n cap gv cv (dep-1) D Z) (hT:TF C ao n cap gv cv (dep-1) D Z):TF C ao n cap gv cv dep (D+1) (1+3*Z):=by
 have hI:=bL hd0 hd1 hz hF hT;have hR:=dA hd0 hd1 hz hz7 hD3 hF hT;have hFF:=aL hd0 hd1 hz hz7 hD3 hF hT;intro sort w h1 h4 hx;have hCS:=hx.ch.lt;have hlf:=bu C ao n cap w hx.ch;have hdn:¬dep≤0:=by omega
 go_enter func14,ntmps14
 go_wp2_with fail
 refine hlf.mono ?_;rintro e w1 ⟨b,kk,rfl,rfl⟩;have HX1:=hid (hx.drewN kk);generalize w.drewN kk=w1 at *;clear hlf hx;cases b
 · go_wp2_with fail
   refine (aa C ao n cap w1 3 (by omega) (by omega) HX1.out.ch).mono ?_;rintro e w2 ⟨rl,hrl,rfl,hc,hg,-⟩;have HX2:=hid (HX1.out.next hc hg);clear hc hg HX1
   by_cases hl0:rl=0
   · subst hl0
     go_wp2_with fail
     refine (aX C ao n cap sort w2 HX2.out.ch h1 h4).mono ?_;rintro e w3 ⟨v,rfl,hsv,hc,hg⟩;have HX3:=hid (HX2.out.next hc hg);have hvt:=bz hsv (by have:=HX3.out.lg;omega);clear hsv hc hg
     go_wp2_with fail
     refine hvt.mono ?_;rintro e w99 ⟨g99,c99,ts99,rfl,k1,k2,k3,kt,kb⟩;have HG:Hid (GP C ao n cap w (D+1) (1+3*Z) sort (.returned (.slice (some ⟨g99,0,none⟩) ts99.length (ts99.length+c99))) w99):=hid (HX3.out.fin (Below.refl _ _) ⟨g99,c99,ts99,rfl,k1,k2,k3,kt,kb⟩ (by omega) (by omega));obtain ⟨l99,hl99⟩:∃l,ts99.length=l:=⟨_,rfl⟩
     rw[hl99] at HG ⊢;clear hl99 k1 k2 k3 kt kb hvt
     go_wp2
     go_ret
     exact HG.out
   · have hl1:¬((rl:Int)=0):=by omega
     go_wp2_with fail
     refine (ag C ao n cap sort gv cv w2 HX2.out.ch h1 h4 HX2.out.vs HX2.out.lg).mono ?_;rintro e w99 hv;have HG:=hid ((hv.after HX2.out.gr).mono (D':=(D+1)) (Z':=(1+3*Z)) (by omega) (by omega));obtain ⟨g99,c99,ts99,rfl,-⟩:=hv;obtain ⟨l99,hl99⟩:∃l,ts99.length=l:=⟨_,rfl⟩
     rw[hl99] at HG ⊢;clear hl99
     go_wp2
     go_ret
     obtain ⟨g98,c98,ts98,k0,k1⟩:=HG.out;exact ⟨g98,c98,ts98,k0,k1⟩
 · have hsc:sort=1∨sort=2∨sort=3∨sort=4:=by omega
   clear h1 h4;rcases hsc with rfl | rfl | rfl | rfl
   · go_wp2_with fail
     refine (hFF w1 HX1.out.at).mono ?_;rintro e w99 hv;have HG:=hid ((hv.after HX1.out.gr).mono (D':=(D+1)) (Z':=(1+3*Z)) (by omega) (by omega));obtain ⟨g99,c99,ts99,rfl,-⟩:=hv;obtain ⟨l99,hl99⟩:∃l,ts99.length=l:=⟨_,rfl⟩
     rw[hl99] at HG ⊢;clear hl99
     go_wp2
     go_ret
     obtain ⟨g98,c98,ts98,k0,k1⟩:=HG.out;exact ⟨g98,c98,ts98,k0,k1⟩
   · go_wp2_with fail
     refine (hR 2 w1 (.inl rfl) HX1.out.at).mono ?_;rintro e w99 hv;have HG:=hid ((hv.after HX1.out.gr).mono (D':=(D+1)) (Z':=(1+3*Z)) (by omega) (by omega));obtain ⟨g99,c99,ts99,rfl,-⟩:=hv;obtain ⟨l99,hl99⟩:∃l,ts99.length=l:=⟨_,rfl⟩
     rw[hl99] at HG ⊢;clear hl99
     go_wp2
     go_ret
     obtain ⟨g98,c98,ts98,k0,k1⟩:=HG.out;exact ⟨g98,c98,ts98,k0,k1⟩
   · go_wp2_with fail
     refine (hR 3 w1 (.inr rfl) HX1.out.at).mono ?_;rintro e w99 hv;have HG:=hid ((hv.after HX1.out.gr).mono (D':=(D+1)) (Z':=(1+3*Z)) (by omega) (by omega));obtain ⟨g99,c99,ts99,rfl,-⟩:=hv;obtain ⟨l99,hl99⟩:∃l,ts99.length=l:=⟨_,rfl⟩
     rw[hl99] at HG ⊢;clear hl99
     go_wp2
     go_ret
     obtain ⟨g98,c98,ts98,k0,k1⟩:=HG.out;exact ⟨g98,c98,ts98,k0,k1⟩
   · go_wp2_with fail
     refine (aa C ao n cap w1 5 (by omega) (by omega) HX1.out.ch).mono ?_;rintro e w2 ⟨r,hr,rfl,hc,hg,-⟩;have HX2:=hid (HX1.out.next hc hg);clear hc hg HX1;have hr5:r=0∨r=1∨r=2∨r=3∨r=4:=by omega
     clear hr;rcases hr5 with rfl | rfl | rfl | rfl | rfl
     · go_wp2_with fail
       refine (hT 2 w2 (by decide) (by decide) HX2.out.at).mono ?_;rintro e w3 ⟨g2,d2,ts2,rfl,k1,k2,k3,kt,kc,kg⟩;have HX3:=hid (HX2.out.next kc kg);have HT2:Hid (TmAt w.heap.size D Z 2 (.slice (some ⟨g2,0,none⟩) ts2.length (ts2.length+d2)) w3):=hid ⟨_,_,_,rfl,k1,k2,Nat.le_trans HX2.out.gr.size k3,kt⟩;obtain ⟨c2,hc2⟩:∃c,ts2.length+d2=c:=⟨_,rfl⟩
       obtain ⟨l2,hl2⟩:∃l,ts2.length=l:=⟨_,rfl⟩
       rw[hc2,hl2] at HT2 ⊢;clear hc2;clear hl2 k1 k2 k3 kt kc kg HX2
       go_wp2_with fail
       refine (op1 20 HT2.out hz dY (by decide) (by decide)).mono ?_;rintro e w99 hv;have HG:=hid (HX3.out.fin (D':=(D+1)) (Z':=(1+3*Z)) (alloc_far' w3 _) hv (by omega) (by omega));obtain ⟨g99,c99,ts99,rfl,-⟩:=hv;obtain ⟨l99,hl99⟩:∃l,ts99.length=l:=⟨_,rfl⟩
       rw[hl99] at HG ⊢;clear hl99
       go_wp2
       go_ret
       obtain ⟨g98,c98,ts98,k0,k1⟩:=HG.out;exact ⟨g98,c98,ts98,k0,k1⟩
     iterate 2
      · go_wp2_with fail
        refine (hT 4 w2 (by decide) (by decide) HX2.out.at).mono ?_;rintro e w3 ⟨g2,d2,ts2,rfl,k1,k2,k3,kt,kc,kg⟩;have HX3:=hid (HX2.out.next kc kg);have HT2:Hid (TmAt w.heap.size D Z 4 (.slice (some ⟨g2,0,none⟩) ts2.length (ts2.length+d2)) w3):=hid ⟨_,_,_,rfl,k1,k2,Nat.le_trans HX2.out.gr.size k3,kt⟩;obtain ⟨c2,hc2⟩:∃c,ts2.length+d2=c:=⟨_,rfl⟩
        obtain ⟨l2,hl2⟩:∃l,ts2.length=l:=⟨_,rfl⟩
        rw[hc2,hl2] at HT2 ⊢;clear hc2;clear hl2 k1 k2 k3 kt kc kg HX2
        go_wp2_with fail
        refine (hT 2 w3 (by decide) (by decide) HX3.out.at).mono ?_;rintro e w4 ⟨g3,d3,ts3,rfl,k1,k2,k3,kt,kc,kg⟩;have HX4:=hid (HX3.out.next kc kg);have HT3:Hid (TmAt w.heap.size D Z 2 (.slice (some ⟨g3,0,none⟩) ts3.length (ts3.length+d3)) w4):=hid ⟨_,_,_,rfl,k1,k2,Nat.le_trans HX3.out.gr.size k3,kt⟩;replace HT2:=hid (HT2.out.grown kg hCS);obtain ⟨c3,hc3⟩:∃c,ts3.length+d3=c:=⟨_,rfl⟩
        obtain ⟨l3,hl3⟩:∃l,ts3.length=l:=⟨_,rfl⟩
        rw[hc3,hl3] at HT3 ⊢;clear hc3;clear hl3 k1 k2 k3 kt kc kg HX3
        go_wp2_with fail
        refine (hT 2 w4 (by decide) (by decide) HX4.out.at).mono ?_;rintro e w5 ⟨g4,d4,ts4,rfl,k1,k2,k3,kt,kc,kg⟩;have HX5:=hid (HX4.out.next kc kg);have HT4:Hid (TmAt w.heap.size D Z 2 (.slice (some ⟨g4,0,none⟩) ts4.length (ts4.length+d4)) w5):=hid ⟨_,_,_,rfl,k1,k2,Nat.le_trans HX4.out.gr.size k3,kt⟩;replace HT2:=hid (HT2.out.grown kg hCS);replace HT3:=hid (HT3.out.grown kg hCS);obtain ⟨c4,hc4⟩:∃c,ts4.length+d4=c:=⟨_,rfl⟩
        obtain ⟨l4,hl4⟩:∃l,ts4.length=l:=⟨_,rfl⟩
        rw[hc4,hl4] at HT4 ⊢;clear hc4;clear hl4 k1 k2 k3 kt kc kg HX4
        go_wp2_with fail
        refine (op3 19 HT2.out HT3.out HT4.out hz dX (by decide) (by decide)).mono ?_;rintro e w99 hv;have HG:=hid (HX5.out.fin (D':=(D+1)) (Z':=(1+3*Z)) (alloc_far' w5 _) hv (by omega) (by omega));obtain ⟨g99,c99,ts99,rfl,-⟩:=hv;obtain ⟨l99,hl99⟩:∃l,ts99.length=l:=⟨_,rfl⟩
        rw[hl99] at HG ⊢;clear hl99
        go_wp2
        go_ret
        obtain ⟨g98,c98,ts98,k0,k1⟩:=HG.out;exact ⟨g98,c98,ts98,k0,k1⟩
     · go_wp2_with fail
       refine (hI 4 w2 (by decide) (by decide) HX2.out.at).mono ?_;rintro e w99 hv;have HG:=hid ((hv.after HX2.out.gr).mono (D':=(D+1)) (Z':=(1+3*Z)) (by omega) (by omega));obtain ⟨g99,c99,ts99,rfl,-⟩:=hv;obtain ⟨l99,hl99⟩:∃l,ts99.length=l:=⟨_,rfl⟩
       rw[hl99] at HG ⊢;clear hl99
       go_wp2
       go_ret
       obtain ⟨g98,c98,ts98,k0,k1⟩:=HG.out;exact ⟨g98,c98,ts98,k0,k1⟩
     · go_wp2_with fail
       refine (ag C ao n cap 4 gv cv w2 HX2.out.ch (by decide) (by decide) HX2.out.vs HX2.out.lg).mono ?_;rintro e w99 hv;have HG:=hid ((hv.after HX2.out.gr).mono (D':=(D+1)) (Z':=(1+3*Z)) (by omega) (by omega));obtain ⟨g99,c99,ts99,rfl,-⟩:=hv;obtain ⟨l99,hl99⟩:∃l,ts99.length=l:=⟨_,rfl⟩
       rw[hl99] at HG ⊢;clear hl99
       go_wp2
       go_ret
       obtain ⟨g98,c98,ts98,k0,k1⟩:=HG.out;exact ⟨g98,c98,ts98,k0,k1⟩
theorem cy (C:Nat) (ao:Option Addr) (n cap gv cv:Nat) (dep:Int) (hd:dep≤0):FF C ao n cap gv cv dep 4 15:=by
 have hA0:=bf (cv:=cv) (dep:=0) (by decide) (by decide) (be C ao n cap gv cv 0 (Int.le_refl 0));intro w hx;have HX0:=hid hx;clear hx
 go_enter func40,ntmps40
 go_wp2_with fail
 refine (hA0 w HX0.out.at).mono ?_;rintro e w99 hv;have HG:=hid ((hv.after HX0.out.gr).mono (D':=4) (Z':=15) (by omega) (by omega));obtain ⟨g99,c99,ts99,rfl,-⟩:=hv;obtain ⟨l99,hl99⟩:∃l,ts99.length=l:=⟨_,rfl⟩
 rw[hl99] at HG ⊢;clear hl99
 go_wp2
 go_ret
 obtain ⟨g98,c98,ts98,k0,k1⟩:=HG.out;exact ⟨g98,c98,ts98,k0,k1⟩
theorem dB (C:Nat) (ao:Option Addr) (n cap gv cv:Nat):TF C ao n cap gv cv 1 5 46∧FF C ao n cap gv cv 1 5 46:=by
 have hF:=cy C ao n cap gv cv (1-1) (by decide);have hT:=(be C ao n cap gv cv (1-1) (by decide)).mono (D':=4) (Z':=15) (by decide) (by decide);exact ⟨bg (by decide) (by decide) (by decide) (by decide) (by decide) hF hT,aL (by decide) (by decide) (by decide) (by decide) (by decide) hF hT⟩
theorem dC (C:Nat) (ao:Option Addr) (n cap gv cv:Nat):TF C ao n cap gv cv 2 6 139∧FF C ao n cap gv cv 2 6 139:=by
 obtain ⟨hT,hF⟩:=dB C ao n cap gv cv;exact ⟨bg (dep:=2) (by decide) (by decide) (by decide) (by decide) (by decide) hF hT,aL (dep:=2) (by decide) (by decide) (by decide) (by decide) (by decide) hF hT⟩
theorem dD (C:Nat) (ao:Option Addr) (n cap gv cv:Nat):TF C ao n cap gv cv 3 7 418∧FF C ao n cap gv cv 3 7 418:=by
 obtain ⟨hT,hF⟩:=dC C ao n cap gv cv;exact ⟨bg (dep:=3) (by decide) (by decide) (by decide) (by decide) (by decide) hF hT,aL (dep:=3) (by decide) (by decide) (by decide) (by decide) (by decide) hF hT⟩
end Go.Proofs.YthefknoicelhaaaGreatDoor.Se

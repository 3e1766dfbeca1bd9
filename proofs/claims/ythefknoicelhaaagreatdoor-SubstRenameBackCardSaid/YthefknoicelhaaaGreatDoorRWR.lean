import Derived.Test.YthefknoicelhaaaGreatDoorRWO
set_option maxRecDepth 100000
set_option maxHeartbeats 40000000
open Go.Lib (hid)
namespace Go.Proofs.YthefknoicelhaaaGreatDoor.Se
open Go.RowKit Nmx Go.Proofs.Tryz
theorem GX.fin {C:Nat} {ao:Option Addr} {n cap gv:Nat} {w W W1:World} {D Z D' Z':Nat} {s:Int} {e:Ending} {w':World} (h:GX C ao n cap gv w W) (hb:Below W.heap.size W W1) (hv:VG W1 D Z s e w') (hd:D≤D') (hz:Z≤Z'):GP C ao n cap w D' Z' s e w':=
 let h1:=h.call hb
 ((hv.gp h1.ch).after h1.gr).mono hd hz
def TF (C:Nat) (ao:Option Addr) (n cap gv cv:Nat) (dep:Int) (D Z:Nat):Prop:=
 ∀(sort:Int) (w:World),1≤sort→sort≤4→GX C ao n cap gv w w→Calls prog 14 #[.pointer (some ⟨C,0,none⟩),.int .i64 sort,.int .i64 dep,.slice (some ⟨gv,0,none⟩) 8 cv] w (GP C ao n cap w D Z sort)
def FF (C:Nat) (ao:Option Addr) (n cap gv cv:Nat) (dep:Int) (D Z:Nat):Prop:=
 ∀w:World,GX C ao n cap gv w w→Calls prog 40 #[.pointer (some ⟨C,0,none⟩),.int .i64 dep,.slice (some ⟨gv,0,none⟩) 8 cv] w (GP C ao n cap w D Z 1)
theorem dp {S D Z:Nat} {s:Int} {u2:Value} {W:World} (g1:Nat) (q:Rat) (a1:NodesAt W g1 [ap s q]) (b1:g1<W.heap.size) (d1:Tm vs8 D Z [ap s q] s) (h2:TmAt S D Z s u2 W) (hz:Z≤100000) (hs:s=2∨s=3):
    Calls prog 41 #[.int .i64 15,.slice (some ⟨W.heap.size,0,none⟩) 2 2] (W.alloc (.cells #[.slice (some ⟨g1,0,none⟩) 1 1,u2] 26)) (VG (W.alloc (.cells #[.slice (some ⟨g1,0,none⟩) 1 1,u2] 26)) (D+1) (1+2*Z) s):=by
 obtain ⟨g2,c2,t2,rfl,a2,b2,-,d2⟩:=h2;have hb:=alloc_far' W (.cells #[.slice (some ⟨g1,0,none⟩) 1 1,.slice (some ⟨g2,0,none⟩) t2.length (t2.length+c2)] 26);have hk:=kds2 (t1:=[ap s q]) (t2:=t2) (heap_alloc_new W (.cells #[.slice (some ⟨g1,0,none⟩) 1 1,.slice (some ⟨g2,0,none⟩) t2.length (t2.length+c2)] 26)) (a1.below hb b1) (Nat.lt_of_lt_of_le b1 hb.size) (a2.below hb b2) (Nat.lt_of_lt_of_le b2 hb.size);refine op_tm (D:=D) (Z:=Z) 15 _ _ 2 _ hk (.cons d1 (.cons d2 .nil)) (by simp;omega) (by simp) ?_ (by decide) (by decide);rcases hs with rfl | rfl
 · exact ac 15 _ [2,2] 2 (by decide) (by decide) (by decide) (by decide) (by decide) (by decide) (by decide) (by decide) (by decide) rfl (fun _=>rfl)
 · exact ac 15 _ [3,3] 3 (by decide) (by decide) (by decide) (by decide) (by decide) (by decide) (by decide) (by decide) (by decide) rfl (fun _=>rfl)
theorem c5 {S D Z:Nat} {s:Int} {W:World}:∀us:List Value,(∀u∈us,TmAt S D Z s u W)→∃L:List (List Nd),L.length=us.length∧Tms vs8 D Z L (List.replicate us.length s)∧∀(j:Nat) (t:List Nd),L[j]? =some t→∃g c,us[j]? =some (Value.slice (some ⟨g,0,none⟩) t.length c)∧NodesAt W g t∧g<W.heap.size:=by
 intro us
 induction us with
 | nil=>intro _;exact ⟨[],rfl,.nil,fun j t h=>by cases h⟩
 | cons u us ih=>
   intro h;obtain ⟨L,h1,h2,h3⟩:=ih (fun v hv=>h v (List.mem_cons_of_mem _ hv));obtain ⟨g,c,ts,rfl,a,b,-,d⟩:=h u (List.mem_cons_self ..);refine ⟨ts::L,by simp[h1],.cons d h2,fun j t hj=>?_⟩;cases j with
   | zero=>cases hj;exact ⟨g,ts.length+c,rfl,a,b⟩
   | succ j=>exact h3 j t hj
theorem opN {S D Z m:Nat} {s1 s:Int} {us:List Value} {v:Value} {W:World} (o:Int) (hr:W.ownsRow S 26 1 v us.length us) (h:∀u∈us,TmAt S D Z s1 u W) (hm:us.length=m) (hz:Z≤100000) (hm3:m≤3) (h0:0<W.heap.size) (hn:∀ks,NodeOk (ndE o m) ks (List.replicate m s1) s) (h5:¬o=5) (h4:¬o=4):
    Calls prog 41 #[.int .i64 o,v] W (VG W (D+1) (1+3*Z) s):=by
 obtain ⟨L,h1,h2,h3⟩:=c5 us h;have hLm:L.length=m:=h1.trans hm
 have hk:∃ak gk ck,v=.slice ak L.length ck∧Kds W ak gk L:=by
  have h':=hr;obtain ⟨_,e | ⟨g,cap,cur,hv,_⟩⟩:=h'
  · refine ⟨none,0,0,by rw[e.1,h1,e.2],fun hne=>absurd (h1.trans e.2) hne,h0,fun j t ht=>?_⟩;have:=(List.getElem?_eq_some_iff.1 ht).1
    omega
  · refine ⟨some ⟨g,0,none⟩,g,cap,by rw[hv,h1],fun _=>rfl,(hr.lt g (by rw[hv];rfl)).2,fun j t ht=>?_⟩;obtain ⟨g',c',e1,e2,e3⟩:=h3 j t ht;have hjl:=(List.getElem?_eq_some_iff.1 ht).1;rw[hv] at hr;exact ⟨g',c',(hr.cellAt j (by omega)).trans e1,e2,e3⟩
 obtain ⟨ak,gk,ck,rfl,hk⟩:=hk;rw[hm] at h2;have hmul:m*Z≤3*Z:=Nat.mul_le_mul_right Z hm3;refine (op_tm (D:=D) (Z:=Z) o ak gk ck W hk h2 (by rw[hLm];omega) (by omega) (by rw[hLm];exact hn _) h5 h4).mono fun e w' hv=>?_
 obtain ⟨g,c,ts,k1,k2,k3,k4,k5,k6⟩:=hv;exact ⟨g,c,ts,k1,k2,k3,k4,k5.mono (Nat.le_refl _) (by rw[hLm];omega),k6⟩
theorem au (C:Nat) (ao:Option Addr) (n cap:Nat) (s:Int) (w:World) (h:Ch C ao n cap w) (hs:s=2∨s=3):
    Calls prog 67 #[.pointer (some ⟨C,0,none⟩),.int .i64 s] w fun e w'=>∃q:Rat,DS 26 q∧(s=3∨s=2∧q.den=1)∧e=.returned (.string (TX q))∧Ch C ao n cap w'∧w.grownBy w' (some C):=by
 have h1:=aE C ao n cap w h;have h2:=bJ C ao n cap w h;clear h;rcases hs with rfl | rfl
 · clear h2
   go_enter func67,ntmps67
   go_wp2_with fail
   refine h1.mono ?_;rintro e w1 ⟨z,hz,rfl,hch,hg⟩;have HC:=hid hch;have HG:=hid hg;have HD:Hid (DS 26 ((z:Int):Rat)∧(((2:Int)=3)∨(2:Int)=2∧((z:Int):Rat).den=1)):=hid ⟨(DS.int (d:=24) hz).mono (by omega),.inr ⟨rfl,rfl⟩⟩;clear hch hg hz h1;generalize ((z:Int):Rat)=q at *
   go_wp2
   go_ret
   exact ⟨q,HD.out.1,HD.out.2,rfl,HC.out,HG.out⟩
 · clear h1
   go_enter func67,ntmps67
   go_wp2_with fail
   refine h2.mono ?_;rintro e w1 ⟨q,hq,rfl,hch,hg⟩;have HC:=hid hch;have HG:=hid hg;have HD:=hid hq;clear hch hg hq h2
   go_wp2
   go_ret
   exact ⟨q,HD.out,.inl (by decide),rfl,HC.out,HG.out⟩
theorem dU (s:Int) (h:1≤s) (h4:s≤4) (ks:List Nd):NodeOk (ndE 10 3) ks [1,s,s] s:=by
 have:s=1∨s=2∨s=3∨s=4:=by omega
 rcases this with rfl | rfl | rfl | rfl
 · exact ac 10 ks [1,1,1] 1 (by decide) (by decide) (by decide) (by decide) (by decide) (by decide) (by decide) (by decide) (by decide) rfl (fun e=>absurd e (by decide))
 · exact ac 10 ks [1,2,2] 2 (by decide) (by decide) (by decide) (by decide) (by decide) (by decide) (by decide) (by decide) (by decide) rfl (fun e=>absurd e (by decide))
 · exact ac 10 ks [1,3,3] 3 (by decide) (by decide) (by decide) (by decide) (by decide) (by decide) (by decide) (by decide) (by decide) rfl (fun e=>absurd e (by decide))
 · exact ac 10 ks [1,4,4] 4 (by decide) (by decide) (by decide) (by decide) (by decide) (by decide) (by decide) (by decide) (by decide) rfl (fun e=>absurd e (by decide))
theorem dL (s:Int) (h:1≤s) (h4:s≤4) (ks:List Nd):NodeOk (ndE 11 2) ks [s,s] 1:=by
 have:s=1∨s=2∨s=3∨s=4:=by omega
 rcases this with rfl | rfl | rfl | rfl
 · exact ac 11 ks [1,1] 1 (by decide) (by decide) (by decide) (by decide) (by decide) (by decide) (by decide) (by decide) (by decide) rfl (fun e=>absurd e (by decide))
 · exact ac 11 ks [2,2] 1 (by decide) (by decide) (by decide) (by decide) (by decide) (by decide) (by decide) (by decide) (by decide) rfl (fun e=>absurd e (by decide))
 · exact ac 11 ks [3,3] 1 (by decide) (by decide) (by decide) (by decide) (by decide) (by decide) (by decide) (by decide) (by decide) rfl (fun e=>absurd e (by decide))
 · exact ac 11 ks [4,4] 1 (by decide) (by decide) (by decide) (by decide) (by decide) (by decide) (by decide) (by decide) (by decide) rfl (fun e=>absurd e (by decide))
theorem dM (o s:Int) (ho:o=11∨o=12∨o=13) (h:s=2∨s=3) (ks:List Nd):NodeOk (ndE o 2) ks [s,s] 1:=by
 rcases ho with rfl | rfl | rfl
 · rcases h with rfl | rfl
   · exact ac 11 ks [2,2] 1 (by decide) (by decide) (by decide) (by decide) (by decide) (by decide) (by decide) (by decide) (by decide) rfl (fun e=>absurd e (by decide))
   · exact ac 11 ks [3,3] 1 (by decide) (by decide) (by decide) (by decide) (by decide) (by decide) (by decide) (by decide) (by decide) rfl (fun e=>absurd e (by decide))
 · rcases h with rfl | rfl
   · exact ac 12 ks [2,2] 1 (by decide) (by decide) (by decide) (by decide) (by decide) (by decide) (by decide) (by decide) (by decide) rfl (fun e=>absurd e (by decide))
   · exact ac 12 ks [3,3] 1 (by decide) (by decide) (by decide) (by decide) (by decide) (by decide) (by decide) (by decide) (by decide) rfl (fun e=>absurd e (by decide))
 · rcases h with rfl | rfl
   · exact ac 13 ks [2,2] 1 (by decide) (by decide) (by decide) (by decide) (by decide) (by decide) (by decide) (by decide) (by decide) rfl (fun e=>absurd e (by decide))
   · exact ac 13 ks [3,3] 1 (by decide) (by decide) (by decide) (by decide) (by decide) (by decide) (by decide) (by decide) (by decide) rfl (fun e=>absurd e (by decide))
def AF (C:Nat) (ao:Option Addr) (n cap gv cv:Nat) (dep:Int) (D Z:Nat):Prop:=
 ∀w:World,GX C ao n cap gv w w→Calls prog 66 #[.pointer (some ⟨C,0,none⟩),.int .i64 dep,.slice (some ⟨gv,0,none⟩) 8 cv] w (GP C ao n cap w D Z 1)
def IF (C:Nat) (ao:Option Addr) (n cap gv cv:Nat) (dep:Int) (D Z:Nat):Prop:=
 ∀(sort:Int) (w:World),1≤sort→sort≤4→GX C ao n cap gv w w→Calls prog 42 #[.pointer (some ⟨C,0,none⟩),.int .i64 sort,.int .i64 dep,.slice (some ⟨gv,0,none⟩) 8 cv] w (GP C ao n cap w D Z sort)
theorem be (C:Nat) (ao:Option Addr) (n cap gv cv:Nat) (dep:Int) (hd:dep≤0):TF C ao n cap gv cv dep 3 7:=by
 intro sort w h1 h4 hx;have HX0:=hid hx;clear hx
 go_enter func14,ntmps14
 go_wp2_with fail
 refine (aa C ao n cap w 3 (by omega) (by omega) HX0.out.ch).mono ?_;rintro e w1 ⟨rl,hrl,rfl,hc,hg,-⟩;have HX1:=hid (HX0.out.next hc hg);clear hc hg HX0
 by_cases hl0:rl=0
 · subst hl0
   go_wp2_with fail
   refine (aX C ao n cap sort w1 HX1.out.ch h1 h4).mono ?_;rintro e w2 ⟨v,rfl,hsv,hc,hg⟩;have HX2:=hid (HX1.out.next hc hg);have hvt:=bz hsv (by have:=HX2.out.lg;omega);clear hsv hc hg
   go_wp2_with fail
   refine hvt.mono ?_;rintro e w99 ⟨g99,c99,ts99,rfl,k1,k2,k3,kt,kb⟩;have HG:Hid (GP C ao n cap w 3 7 sort (.returned (.slice (some ⟨g99,0,none⟩) ts99.length (ts99.length+c99))) w99):=hid (HX2.out.fin (Below.refl _ _) ⟨g99,c99,ts99,rfl,k1,k2,k3,kt,kb⟩ (by omega) (by omega));obtain ⟨l99,hl99⟩:∃l,ts99.length=l:=⟨_,rfl⟩
   rw[hl99] at HG ⊢;clear hl99 k1 k2 k3 kt kb hvt
   go_wp2
   go_ret
   exact HG.out
 · have hl1:¬((rl:Int)=0):=by omega
   go_wp2_with fail
   refine (ag C ao n cap sort gv cv w1 HX1.out.ch h1 h4 HX1.out.vs HX1.out.lg).mono ?_;rintro e w99 hv;have HG:=hid ((hv.after HX1.out.gr).mono (D':=3) (Z':=7) (by omega) (by omega));obtain ⟨g99,c99,ts99,rfl,-⟩:=hv;obtain ⟨l99,hl99⟩:∃l,ts99.length=l:=⟨_,rfl⟩
   rw[hl99] at HG ⊢;clear hl99
   go_wp2
   go_ret
   obtain ⟨g98,c98,ts98,k0,k1⟩:=HG.out;exact ⟨g98,c98,ts98,k0,k1⟩
theorem bL {C:Nat} {ao:Option Addr} {n cap gv cv:Nat} {dep:Int} {D Z:Nat} (hd0:0<dep) (hd1:dep≤1000) (hz:Z≤100000) (hF:FF C ao n cap gv cv (dep-1) D Z) (hT:TF C ao n cap gv cv (dep-1) D Z):IF C ao n cap gv cv dep (D+1) (1+3*Z):=by
 intro sort w h1 h4 hx;have hCS:=hx.ch.lt;have HX0:=hid hx;clear hx
 go_enter func42,ntmps42
 go_wp2_with fail
 refine (hF w HX0.out.at).mono ?_;rintro e w1 ⟨g0,c0,ts0,rfl,k1,k2,k3,kt,kc,kg⟩;have HX1:=hid (HX0.out.next kc kg);have HT0:Hid (TmAt w.heap.size D Z 1 (.slice (some ⟨g0,0,none⟩) ts0.length (ts0.length+c0)) w1):=hid ⟨_,_,_,rfl,k1,k2,Nat.le_trans HX0.out.gr.size k3,kt⟩;obtain ⟨l0,hl0⟩:∃l,ts0.length=l:=⟨_,rfl⟩
 rw[hl0] at HT0 ⊢;clear hl0 k1 k2 k3 kt kc kg HX0
 go_wp2_with fail
 refine (hT sort w1 h1 h4 HX1.out.at).mono ?_;rintro e w2 ⟨g1,c1,ts1,rfl,k1,k2,k3,kt,kc,kg⟩;have HX2:=hid (HX1.out.next kc kg);have HT1:Hid (TmAt w.heap.size D Z sort (.slice (some ⟨g1,0,none⟩) ts1.length (ts1.length+c1)) w2):=hid ⟨_,_,_,rfl,k1,k2,Nat.le_trans HX1.out.gr.size k3,kt⟩;replace HT0:=hid (HT0.out.grown kg hCS);obtain ⟨l1,hl1⟩:∃l,ts1.length=l:=⟨_,rfl⟩
 rw[hl1] at HT1 ⊢;clear hl1 k1 k2 k3 kt kc kg HX1
 go_wp2_with fail
 refine (hT sort w2 h1 h4 HX2.out.at).mono ?_;rintro e w3 ⟨g2,c2,ts2,rfl,k1,k2,k3,kt,kc,kg⟩;have HX3:=hid (HX2.out.next kc kg);have HT2:Hid (TmAt w.heap.size D Z sort (.slice (some ⟨g2,0,none⟩) ts2.length (ts2.length+c2)) w3):=hid ⟨_,_,_,rfl,k1,k2,Nat.le_trans HX2.out.gr.size k3,kt⟩;replace HT0:=hid (HT0.out.grown kg hCS);replace HT1:=hid (HT1.out.grown kg hCS);obtain ⟨l2,hl2⟩:∃l,ts2.length=l:=⟨_,rfl⟩
 rw[hl2] at HT2 ⊢;clear hl2 k1 k2 k3 kt kc kg HX2
 go_wp2_with fail
 refine (op3 10 HT0.out HT1.out HT2.out hz (dU sort h1 h4) (by decide) (by decide)).mono ?_;rintro e w99 hv;have HG:=hid (HX3.out.fin (D':=(D+1)) (Z':=(1+3*Z)) (alloc_far' w3 _) hv (by omega) (by omega));obtain ⟨g99,c99,ts99,rfl,-⟩:=hv;obtain ⟨l99,hl99⟩:∃l,ts99.length=l:=⟨_,rfl⟩
 rw[hl99] at HG ⊢;clear hl99
 go_wp2
 go_ret
 obtain ⟨g98,c98,ts98,k0,k1⟩:=HG.out;exact ⟨g98,c98,ts98,k0,k1⟩
theorem bf {C:Nat} {ao:Option Addr} {n cap gv cv:Nat} {dep:Int} {D Z:Nat} (hz:Z≤100000) (hz1:1≤Z) (hT:TF C ao n cap gv cv dep D Z):AF C ao n cap gv cv dep (D+1) (1+2*Z):=by
 intro w hx;have hCS:=hx.ch.lt;have hA:=alloc_far' w (.cells #[.int .i64 2,.int .i64 2,.int .i64 3,.int .i64 4,.int .i64 1] 3);have hK:=heap_alloc_new w (.cells #[.int .i64 2,.int .i64 2,.int .i64 3,.int .i64 4,.int .i64 1] 3);have HX1:=hid (hx.call hA);clear hx hA
 go_enter func66,ntmps66
 go_wp2_with fail
 generalize w.alloc (.cells #[.int .i64 2,.int .i64 2,.int .i64 3,.int .i64 4,.int .i64 1] 3)=w1 at *;refine (aa C ao n cap w1 5 (by omega) (by omega) HX1.out.ch).mono ?_;rintro e w2 ⟨r,hr,rfl,hc,hg,-⟩;have HX2:=hid (HX1.out.next hc hg);have hK2:=(hg.block _ (lt_of_heap hK) (fun e=>by have:=Option.some.inj e;omega)).trans hK;clear hc hg HX1 hK;have d0:=heap_cell hK2 0;have d1:=heap_cell hK2 1;have d2:=heap_cell hK2 2;have d3:=heap_cell hK2 3;have d4:=heap_cell hK2 4;clear hK2;have hr5:r=0∨r=1∨r=2∨r=3∨r=4:=by omega
 clear hr;rcases hr5 with rfl | rfl | rfl | rfl | rfl
 iterate 2
  · go_wp2_with fail
    refine (aa C ao n cap w2 3 (by omega) (by omega) HX2.out.ch).mono ?_;rintro e w3 ⟨q,hq,rfl,hc,hg,-⟩;have HX3:=hid (HX2.out.next hc hg);clear hc hg HX2;obtain ⟨o,ho⟩:∃o:Int,11+(q:Int)=o:=⟨_,rfl⟩
    have ho3:o=11∨o=12∨o=13:=by omega
    go_wp2_with fail
    refine (hT 2 w3 (by decide) (by decide) HX3.out.at).mono ?_;rintro e w4 ⟨g3,c3,ts3,rfl,k1,k2,k3,kt,kc,kg⟩;have HX4:=hid (HX3.out.next kc kg);have HT3:Hid (TmAt w.heap.size D Z 2 (.slice (some ⟨g3,0,none⟩) ts3.length (ts3.length+c3)) w4):=hid ⟨_,_,_,rfl,k1,k2,Nat.le_trans HX3.out.gr.size k3,kt⟩;obtain ⟨l3,hl3⟩:∃l,ts3.length=l:=⟨_,rfl⟩
    rw[hl3] at HT3 ⊢;clear hl3 k1 k2 k3 kt kc kg HX3
    go_wp2_with fail
    refine (hT 2 w4 (by decide) (by decide) HX4.out.at).mono ?_;rintro e w5 ⟨g4,c4,ts4,rfl,k1,k2,k3,kt,kc,kg⟩;have HX5:=hid (HX4.out.next kc kg);have HT4:Hid (TmAt w.heap.size D Z 2 (.slice (some ⟨g4,0,none⟩) ts4.length (ts4.length+c4)) w5):=hid ⟨_,_,_,rfl,k1,k2,Nat.le_trans HX4.out.gr.size k3,kt⟩;replace HT3:=hid (HT3.out.grown kg hCS);obtain ⟨l4,hl4⟩:∃l,ts4.length=l:=⟨_,rfl⟩
    rw[hl4] at HT4 ⊢;clear hl4 k1 k2 k3 kt kc kg HX4
    go_wp2_with fail
    refine (op2 o HT3.out HT4.out hz (dM o 2 ho3 (by decide)) (by omega) (by omega)).mono ?_;rintro e w99 hv;have HG:=hid (HX5.out.fin (D':=(D+1)) (Z':=(1+2*Z)) (alloc_far' w5 _) hv (by omega) (by omega));obtain ⟨g99,c99,ts99,rfl,-⟩:=hv;obtain ⟨l99,hl99⟩:∃l,ts99.length=l:=⟨_,rfl⟩
    rw[hl99] at HG ⊢;clear hl99
    go_wp2
    go_ret
    obtain ⟨g98,c98,ts98,k0,k1⟩:=HG.out;exact ⟨g98,c98,ts98,k0,k1⟩
 · go_wp2_with fail
   refine (aa C ao n cap w2 3 (by omega) (by omega) HX2.out.ch).mono ?_;rintro e w3 ⟨q,hq,rfl,hc,hg,-⟩;have HX3:=hid (HX2.out.next hc hg);clear hc hg HX2;obtain ⟨o,ho⟩:∃o:Int,11+(q:Int)=o:=⟨_,rfl⟩
   have ho3:o=11∨o=12∨o=13:=by omega
   go_wp2_with fail
   refine (hT 3 w3 (by decide) (by decide) HX3.out.at).mono ?_;rintro e w4 ⟨g3,c3,ts3,rfl,k1,k2,k3,kt,kc,kg⟩;have HX4:=hid (HX3.out.next kc kg);have HT3:Hid (TmAt w.heap.size D Z 3 (.slice (some ⟨g3,0,none⟩) ts3.length (ts3.length+c3)) w4):=hid ⟨_,_,_,rfl,k1,k2,Nat.le_trans HX3.out.gr.size k3,kt⟩;obtain ⟨l3,hl3⟩:∃l,ts3.length=l:=⟨_,rfl⟩
   rw[hl3] at HT3 ⊢;clear hl3 k1 k2 k3 kt kc kg HX3
   go_wp2_with fail
   refine (hT 3 w4 (by decide) (by decide) HX4.out.at).mono ?_;rintro e w5 ⟨g4,c4,ts4,rfl,k1,k2,k3,kt,kc,kg⟩;have HX5:=hid (HX4.out.next kc kg);have HT4:Hid (TmAt w.heap.size D Z 3 (.slice (some ⟨g4,0,none⟩) ts4.length (ts4.length+c4)) w5):=hid ⟨_,_,_,rfl,k1,k2,Nat.le_trans HX4.out.gr.size k3,kt⟩;replace HT3:=hid (HT3.out.grown kg hCS);obtain ⟨l4,hl4⟩:∃l,ts4.length=l:=⟨_,rfl⟩
   rw[hl4] at HT4 ⊢;clear hl4 k1 k2 k3 kt kc kg HX4
   go_wp2_with fail
   refine (op2 o HT3.out HT4.out hz (dM o 3 ho3 (by decide)) (by omega) (by omega)).mono ?_;rintro e w99 hv;have HG:=hid (HX5.out.fin (D':=(D+1)) (Z':=(1+2*Z)) (alloc_far' w5 _) hv (by omega) (by omega));obtain ⟨g99,c99,ts99,rfl,-⟩:=hv;obtain ⟨l99,hl99⟩:∃l,ts99.length=l:=⟨_,rfl⟩
   rw[hl99] at HG ⊢;clear hl99
   go_wp2
   go_ret
   obtain ⟨g98,c98,ts98,k0,k1⟩:=HG.out;exact ⟨g98,c98,ts98,k0,k1⟩
 · go_wp2_with fail
   refine (hT 4 w2 (by decide) (by decide) HX2.out.at).mono ?_;rintro e w3 ⟨g2,c2,ts2,rfl,k1,k2,k3,kt,kc,kg⟩;have HX3:=hid (HX2.out.next kc kg);have HT2:Hid (TmAt w.heap.size D Z 4 (.slice (some ⟨g2,0,none⟩) ts2.length (ts2.length+c2)) w3):=hid ⟨_,_,_,rfl,k1,k2,Nat.le_trans HX2.out.gr.size k3,kt⟩;obtain ⟨l2,hl2⟩:∃l,ts2.length=l:=⟨_,rfl⟩
   rw[hl2] at HT2 ⊢;clear hl2 k1 k2 k3 kt kc kg HX2
   go_wp2_with fail
   refine (hT 4 w3 (by decide) (by decide) HX3.out.at).mono ?_;rintro e w4 ⟨g3,c3,ts3,rfl,k1,k2,k3,kt,kc,kg⟩;have HX4:=hid (HX3.out.next kc kg);have HT3:Hid (TmAt w.heap.size D Z 4 (.slice (some ⟨g3,0,none⟩) ts3.length (ts3.length+c3)) w4):=hid ⟨_,_,_,rfl,k1,k2,Nat.le_trans HX3.out.gr.size k3,kt⟩;replace HT2:=hid (HT2.out.grown kg hCS);obtain ⟨l3,hl3⟩:∃l,ts3.length=l:=⟨_,rfl⟩
   rw[hl3] at HT3 ⊢;clear hl3 k1 k2 k3 kt kc kg HX3
   go_wp2_with fail
   refine (op2 11 HT2.out HT3.out hz (dL 4 (by decide) (by decide)) (by decide) (by decide)).mono ?_;rintro e w99 hv;have HG:=hid (HX4.out.fin (D':=(D+1)) (Z':=(1+2*Z)) (alloc_far' w4 _) hv (by omega) (by omega));obtain ⟨g99,c99,ts99,rfl,-⟩:=hv;obtain ⟨l99,hl99⟩:∃l,ts99.length=l:=⟨_,rfl⟩
   rw[hl99] at HG ⊢;clear hl99
   go_wp2
   go_ret
   obtain ⟨g98,c98,ts98,k0,k1⟩:=HG.out;exact ⟨g98,c98,ts98,k0,k1⟩
 · go_wp2_with fail
   refine (aa C ao n cap w2 3 (by omega) (by omega) HX2.out.ch).mono ?_;rintro e w3 ⟨q,hq,rfl,hc,hg,-⟩;have HX3:=hid (HX2.out.next hc hg);clear hc hg HX2
   by_cases hq0:q=0
   · subst hq0
     go_wp2_with fail
     refine (aa C ao n cap w3 2 (by omega) (by omega) HX3.out.ch).mono ?_;rintro e w4 ⟨p,hp,rfl,hc,hg,-⟩;have HX4:=hid (HX3.out.next hc hg);clear hc hg HX3;have hp2:p=0∨p=1:=by omega
     clear hp;rcases hp2 with rfl | rfl
     · go_wp2_with fail
       refine (aC false _).mono ?_;rintro e w99 ho;have hv:=VG.one ho (bd false);clear ho;have HG:=hid (HX4.out.fin (D':=D+1) (Z':=1+2*Z) (Below.refl _ _) hv (by omega) (by omega));obtain ⟨g99,c99,ts99,rfl,-⟩:=hv;obtain ⟨l99,hl99⟩:∃l,ts99.length=l:=⟨_,rfl⟩
       rw[hl99] at HG ⊢;clear hl99
       go_wp2
       go_ret
       obtain ⟨g98,c98,ts98,k0,k1⟩:=HG.out;exact ⟨g98,c98,ts98,k0,k1⟩
     · go_wp2_with fail
       refine (aC true _).mono ?_;rintro e w99 ho;have hv:=VG.one ho (bd true);clear ho;have HG:=hid (HX4.out.fin (D':=D+1) (Z':=1+2*Z) (Below.refl _ _) hv (by omega) (by omega));obtain ⟨g99,c99,ts99,rfl,-⟩:=hv;obtain ⟨l99,hl99⟩:∃l,ts99.length=l:=⟨_,rfl⟩
       rw[hl99] at HG ⊢;clear hl99
       go_wp2
       go_ret
       obtain ⟨g98,c98,ts98,k0,k1⟩:=HG.out;exact ⟨g98,c98,ts98,k0,k1⟩
   · have hq1:¬((q:Int)=0):=by omega
     go_wp2_with fail
     refine (ag C ao n cap 1 gv cv w3 HX3.out.ch (by decide) (by decide) HX3.out.vs HX3.out.lg).mono ?_;rintro e w99 hv;have HG:=hid ((hv.after HX3.out.gr).mono (D':=(D+1)) (Z':=(1+2*Z)) (by omega) (by omega));obtain ⟨g99,c99,ts99,rfl,-⟩:=hv;obtain ⟨l99,hl99⟩:∃l,ts99.length=l:=⟨_,rfl⟩
     rw[hl99] at HG ⊢;clear hl99
     go_wp2
     go_ret
     obtain ⟨g98,c98,ts98,k0,k1⟩:=HG.out;exact ⟨g98,c98,ts98,k0,k1⟩
theorem cx:(prog.info? 26).map (fun i=>(i.zero,i.size,i.bytes))=some (some (.slice none 0 0),1,24):=by kernel_rfl
theorem TmAt.kept {S D Z m:Nat} {s:Int} {u v:Value} {us:List Value} {e:TypeId} {W W':World} (h:TmAt S D Z s u W) (hr:W.ownsRow S e 1 v m us) (hus:∀x∈us,∃a n c,x=.slice a n c) (hm:us.length=m) (hnil:m=0→v=.slice none 0 0) (hg:W.grownBy W' v.ownBlock):TmAt S D Z s u W':=by
 obtain ⟨g,c,ts,rfl,h2,h3,h4,h5⟩:=h
 have hne:some g≠v.ownBlock:=by
  intro e1
  have hv:∃cc,v=.slice (some ⟨g,0,none⟩) m cc:=by
   have h':=hr;obtain ⟨_,e2 | ⟨g',cap,cur,hv,_⟩⟩:=h'
   · rw[e2.1] at e1;cases e1
   · rw[hv] at e1;have e3:g=g':=Option.some.inj e1;subst e3;exact ⟨cap,hv⟩
  obtain ⟨cc,hv⟩:=hv
  have hm0:0<m:=by
   rcases Nat.eq_zero_or_pos m with h0 | h0
   · rw[hnil h0] at e1;cases e1
   · exact h0
  rw[hv] at hr;have hc:=hr.cellAt 0 (by omega);obtain ⟨E,Sx,hw⟩:=h5.wt;obtain ⟨d',x,ks,ss,rest,_,_,_,_,-,rfl,-⟩:=hw.step;have hn:=h2 0 x rfl 0 (by decide);have hu:0<us.length:=by omega
  obtain ⟨a,n',c',ea⟩:=hus us[0] (List.getElem_mem hu);rw[List.getElem?_eq_getElem hu,ea] at hc;have hn2:W.cell? ⟨g,0,none⟩=some (.int .i64 x.op):=hn;rw[hn2] at hc;cases hc
 exact ⟨g,c,ts,rfl,fun i x hx j hj=>(World.cell?_of_block (hg.block g h3 hne)).trans (h2 i x hx j hj),Nat.lt_of_lt_of_le h3 hg.size,h4,h5⟩
theorem TmAt.sl {S D Z:Nat} {s:Int} {u:Value} {W:World} (h:TmAt S D Z s u W):∃a n c,u=.slice a n c:=let ⟨_,_,_,h1,_⟩:=h;⟨_,_,_,h1⟩
structure TRow (w:World) (D Z m:Nat) (s:Int) (v:Value) (us:List Value) (W:World):Prop where
 row:W.ownsRow w.heap.size 26 1 v m us
 len:us.length=m
 tms:∀u∈us,TmAt w.heap.size D Z s u W
 nil:m=0→v=.slice none 0 0
theorem TRow.grown {w:World} {D Z m C:Nat} {s:Int} {v:Value} {us:List Value} {W W':World} (h:TRow w D Z m s v us W) (hg:W.grownBy W' (some C)) (hC:C<w.heap.size):TRow w D Z m s v us W':=
 ⟨h.row.kept hg (.inr (fun e=>by have:=(h.row.lt C e).1;omega)),h.len,fun u hu=>(h.tms u hu).grown hg hC,h.nil⟩
theorem TRow.alloc {w:World} {D Z m:Nat} {s:Int} {v:Value} {us:List Value} {W:World} (h:TRow w D Z m s v us W) (o:Obj):TRow w D Z m s v us (W.alloc o):=
 ⟨h.row.alloc o,h.len,fun u hu=>(h.tms u hu).far (alloc_far' W o),h.nil⟩
theorem TRow.push {w:World} {D Z m:Nat} {s:Int} {v v' u:Value} {us:List Value} {W W':World} (h:TRow w D Z m s v us W) (hu:TmAt w.heap.size D Z s u W) (hg:W.grownBy W' v.ownBlock) (hr:W'.ownsRow w.heap.size 26 1 v' (m+1) (us++[u])):TRow w D Z (m+1) s v' (us++[u]) W':=by
 have hk:∀x,TmAt w.heap.size D Z s x W→TmAt w.heap.size D Z s x W':=fun x hx=>hx.kept h.row (fun y hy=>(h.tms y hy).sl) h.len h.nil hg
 refine ⟨hr,by rw[List.length_append,h.len];rfl,fun x hx=>?_,fun e=>by omega⟩;rcases List.mem_append.1 hx with hx | hx
 · exact hk x (h.tms x hx)
 · rw[List.mem_singleton] at hx;subst hx;exact hk x hu
theorem dV (o:Int) (ho:o=7∨o=8) (m:Nat) (hm:m≤3) (ks:List Nd):NodeOk (ndE o m) ks (List.replicate m 1) 1:=by
 have:m=0∨m=1∨m=2∨m=3:=by omega
 rcases ho with rfl | rfl
 · rcases this with rfl | rfl | rfl | rfl
   · exact ac 7 ks [] 1 (by decide) (by decide) (by decide) (by decide) (by decide) (by decide) (by decide) (by decide) (by decide) rfl (fun e=>absurd e (by decide))
   · exact ac 7 ks [1] 1 (by decide) (by decide) (by decide) (by decide) (by decide) (by decide) (by decide) (by decide) (by decide) rfl (fun e=>absurd e (by decide))
   · exact ac 7 ks [1,1] 1 (by decide) (by decide) (by decide) (by decide) (by decide) (by decide) (by decide) (by decide) (by decide) rfl (fun e=>absurd e (by decide))
   · exact ac 7 ks [1,1,1] 1 (by decide) (by decide) (by decide) (by decide) (by decide) (by decide) (by decide) (by decide) (by decide) rfl (fun e=>absurd e (by decide))
 · rcases this with rfl | rfl | rfl | rfl
   · exact ac 8 ks [] 1 (by decide) (by decide) (by decide) (by decide) (by decide) (by decide) (by decide) (by decide) (by decide) rfl (fun e=>absurd e (by decide))
   · exact ac 8 ks [1] 1 (by decide) (by decide) (by decide) (by decide) (by decide) (by decide) (by decide) (by decide) (by decide) rfl (fun e=>absurd e (by decide))
   · exact ac 8 ks [1,1] 1 (by decide) (by decide) (by decide) (by decide) (by decide) (by decide) (by decide) (by decide) (by decide) rfl (fun e=>absurd e (by decide))
   · exact ac 8 ks [1,1,1] 1 (by decide) (by decide) (by decide) (by decide) (by decide) (by decide) (by decide) (by decide) (by decide) rfl (fun e=>absurd e (by decide))
theorem ok6 (ks:List Nd):NodeOk (ndE 6 1) ks [1] 1:=ac 6 ks [1] 1 (by decide) (by decide) (by decide) (by decide) (by decide) (by decide) (by decide) (by decide) (by decide) rfl (fun e=>absurd e (by decide))
theorem ok9 (ks:List Nd):NodeOk (ndE 9 2) ks [1,1] 1:=ac 9 ks [1,1] 1 (by decide) (by decide) (by decide) (by decide) (by decide) (by decide) (by decide) (by decide) (by decide) rfl (fun e=>absurd e (by decide))
theorem aL {C:Nat} {ao:Option Addr} {n cap gv cv:Nat} {dep:Int} {D Z:Nat} (hd0:0<dep) (hd1:dep≤1000) (hz:Z≤100000) (hz7:7≤Z) (hD3:3≤D) (hF:FF C ao n cap gv cv (dep-1) D Z) (hT:TF C ao n cap gv cv (dep-1) D Z):FF C ao n cap gv cv dep (D+1) (1+3*Z):=by
 obtain ⟨i0,hi,hz0,hz1,hz2⟩:=info_parts cx;have hA0:=bf (cv:=cv) (dep:=0) (by decide) (by decide) (be C ao n cap gv cv 0 (Int.le_refl 0));have hA1:=bf hz (by omega) hT;have hI:=bL hd0 hd1 hz hF hT;intro w hx;have hCS:=hx.ch.lt;have hlf:=bu C ao n cap w hx.ch;have hdn:¬dep≤0:=by omega
 go_enter func40,ntmps40
 go_wp2_with fail
 refine hlf.mono ?_;rintro e w1 ⟨b,kk,rfl,rfl⟩;have HX1:=hid (hx.drewN kk);generalize w.drewN kk=w1 at *;clear hlf hx;cases b
 · go_wp2_with fail
   refine (hA0 w1 HX1.out.at).mono ?_;rintro e w99 hv;have HG:=hid ((hv.after HX1.out.gr).mono (D':=(D+1)) (Z':=(1+3*Z)) (by omega) (by omega));obtain ⟨g99,c99,ts99,rfl,-⟩:=hv;obtain ⟨l99,hl99⟩:∃l,ts99.length=l:=⟨_,rfl⟩
   rw[hl99] at HG ⊢;clear hl99
   go_wp2
   go_ret
   obtain ⟨g98,c98,ts98,k0,k1⟩:=HG.out;exact ⟨g98,c98,ts98,k0,k1⟩
 · go_wp2_with fail
   refine (aa C ao n cap w1 12 (by omega) (by omega) HX1.out.ch).mono ?_;rintro e w2 ⟨r,hr,rfl,hc,hg,-⟩;have HX2:=hid (HX1.out.next hc hg);clear hc hg HX1;have hr12:r=0∨r=1∨r=2∨r=3∨r=4∨r=5∨r=6∨r=7∨r=8∨r=9∨r=10∨r=11:=by omega
   clear hr;rcases hr12 with rfl | rfl | rfl | rfl | rfl | rfl | rfl | rfl | rfl | rfl | rfl | rfl
   iterate 2
    · go_wp2_with fail
      refine (hF w2 HX2.out.at).mono ?_;rintro e w3 ⟨g2,d2,ts2,rfl,k1,k2,k3,kt,kc,kg⟩;have HX3:=hid (HX2.out.next kc kg);have HT2:Hid (TmAt w.heap.size D Z 1 (.slice (some ⟨g2,0,none⟩) ts2.length (ts2.length+d2)) w3):=hid ⟨_,_,_,rfl,k1,k2,Nat.le_trans HX2.out.gr.size k3,kt⟩;obtain ⟨c2,hc2⟩:∃c,ts2.length+d2=c:=⟨_,rfl⟩
      obtain ⟨l2,hl2⟩:∃l,ts2.length=l:=⟨_,rfl⟩
      rw[hc2,hl2] at HT2 ⊢;clear hc2;clear hl2 k1 k2 k3 kt kc kg HX2
      go_wp2_with fail
      refine (op1 6 HT2.out hz ok6 (by decide) (by decide)).mono ?_;rintro e w99 hv;have HG:=hid (HX3.out.fin (D':=(D+1)) (Z':=(1+3*Z)) (alloc_far' w3 _) hv (by omega) (by omega));obtain ⟨g99,c99,ts99,rfl,-⟩:=hv;obtain ⟨l99,hl99⟩:∃l,ts99.length=l:=⟨_,rfl⟩
      rw[hl99] at HG ⊢;clear hl99
      go_wp2
      go_ret
      obtain ⟨g98,c98,ts98,k0,k1⟩:=HG.out;exact ⟨g98,c98,ts98,k0,k1⟩
   iterate 4
    · go_wp2_with fail
      refine (aa C ao n cap w2 4 (by omega) (by omega) HX2.out.ch).mono ?_;rintro e w3 ⟨m0,hm0,rfl,hc,hg,-⟩;have HX3:=hid (HX2.out.next hc hg);clear hc hg HX2;have HTR:Hid (TRow w D Z 0 1 (.slice none 0 0) [] w3):=hid ⟨World.ownsRow_nil _ _ _ _,rfl,fun u h=>(by cases h),fun _=>rfl⟩;have hm3:m0≤3:=by omega
      clear hm0
      go_wp2
      go_loopw [7,8] (fun v i wr=>∃(k m:Nat) (us:List Value),i=.int .i64 m∧k+m≤3∧TRow w D Z k 1 v us wr∧GX C ao n cap gv w wr) (fun _ i _=>(intOf i).toNat)
      case atStart=>exact ⟨0,m0,[],rfl,by omega,HTR.out,HX3.out⟩
      case round=>
       clear HTR HX3 hm3;obtain ⟨k,m,us,rfl,hkm,htr,hgx⟩:=hrel;have HTR:=hid htr;have HX50:=hid hgx;clear htr hgx
       by_cases hm:0<m
       · have hmI:(0:Int)<(m:Int):=by omega
         go_wp2_with fail
         refine (hF wr HX50.out.at).mono ?_;rintro e w51 ⟨g50,d50,ts50,rfl,k1,k2,k3,kt,kc,kg⟩;have HX51:=hid (HX50.out.next kc kg);have HT50:Hid (TmAt w.heap.size D Z 1 (.slice (some ⟨g50,0,none⟩) ts50.length (ts50.length+d50)) w51):=hid ⟨_,_,_,rfl,k1,k2,Nat.le_trans HX50.out.gr.size k3,kt⟩;obtain ⟨c50,hc50⟩:∃c,ts50.length+d50=c:=⟨_,rfl⟩
         obtain ⟨l50,hl50⟩:∃l,ts50.length=l:=⟨_,rfl⟩
         rw[hc50,hl50] at HT50 ⊢;clear hc50;have HTR2:=hid (HTR.out.grown kg hCS);clear HTR hl50 k1 k2 k3 kt kc kg HX50;have hwz:=HX51.out.gr.size;have HTR3:=hid (HTR2.out.alloc (.cells #[.slice (some ⟨g50,0,none⟩) l50 c50] 26));have HT53:=hid (HT50.out.far (alloc_far' w51 (.cells #[.slice (some ⟨g50,0,none⟩) l50 c50] 26)));have HX53:=hid (HX51.out.call (alloc_far' w51 (.cells #[.slice (some ⟨g50,0,none⟩) l50 c50] 26)))
         go_wp2_with (at_builtin;go_loud (refine wpList_append_own _ rfl _ _ 83 rfl w.heap.size 26 i0 _ 1 24 underlying83 hi hz0 hz1 hz2 rfl (by decide) _ k us rfl HTR3.out.row ⟨w51.heap.size,0,none⟩ 1 1 [.slice (some ⟨g50,0,none⟩) l50 c50] rfl rfl (World.news_of_block (cs:=#[.slice (some ⟨g50,0,none⟩) l50 c50]) (t:=26) (fr:=(0,0)) (heap_alloc_new w51 _)) (by simp[Value.oneCell']) (by unfold maxLen;omega) (by omega) (by simp;omega) ?_))
         intro v' w54 hown' hgrow _;have HTR4:=hid (HTR3.out.push HT53.out hgrow hown');have HX54:=hid (HX53.out.own hgrow (fun j e=>(HTR3.out.row.lt j e).1) hCS);clear hown' hgrow HTR3 HTR2 HT53 HT50 HX53 HX51
         go_wp2
         go_roundw
         case rel=>exact ⟨k+1,m-1,us++[.slice (some ⟨g50,0,none⟩) l50 c50],by go_num,by omega,HTR4.out,HX54.out⟩
         case measure=>simp[intOf];omega
       · obtain rfl:m=0:=by omega
         go_wp2_with fail
         refine (aa C ao n cap wr 2 (by omega) (by omega) HX50.out.ch).mono ?_;rintro e w51 ⟨p,hp,rfl,hc,hg,-⟩;have HX51:=hid (HX50.out.next hc hg);have HTR2:=hid (HTR.out.grown hg hCS);clear HTR hc hg HX50;obtain ⟨o,ho⟩:∃o:Int,7+(p:Int)=o:=⟨_,rfl⟩
         have ho2:o=7∨o=8:=by omega
         have hop:=opN (s:=1) o (by rw[HTR2.out.len];exact HTR2.out.row) HTR2.out.tms HTR2.out.len hz (by omega) (by have:=HX51.out.lg;omega) (dV o ho2 k (by omega)) (by omega) (by omega);clear HTR2
         go_wp2_with fail
         refine (hop).mono ?_;rintro e w99 hv;have HG:=hid (HX51.out.fin (D':=(D+1)) (Z':=(1+3*Z)) (Below.refl _ _) hv (by omega) (by omega));obtain ⟨g99,c99,ts99,rfl,-⟩:=hv;obtain ⟨l99,hl99⟩:∃l,ts99.length=l:=⟨_,rfl⟩
         rw[hl99] at HG ⊢;clear hl99
         go_wp2
         go_ret
         obtain ⟨g98,c98,ts98,k0,k1⟩:=HG.out;exact ⟨g98,c98,ts98,k0,k1⟩
   · go_wp2_with fail
     refine (hF w2 HX2.out.at).mono ?_;rintro e w3 ⟨g2,d2,ts2,rfl,k1,k2,k3,kt,kc,kg⟩;have HX3:=hid (HX2.out.next kc kg);have HT2:Hid (TmAt w.heap.size D Z 1 (.slice (some ⟨g2,0,none⟩) ts2.length (ts2.length+d2)) w3):=hid ⟨_,_,_,rfl,k1,k2,Nat.le_trans HX2.out.gr.size k3,kt⟩;obtain ⟨c2,hc2⟩:∃c,ts2.length+d2=c:=⟨_,rfl⟩
     obtain ⟨l2,hl2⟩:∃l,ts2.length=l:=⟨_,rfl⟩
     rw[hc2,hl2] at HT2 ⊢;clear hc2;clear hl2 k1 k2 k3 kt kc kg HX2
     go_wp2_with fail
     refine (hF w3 HX3.out.at).mono ?_;rintro e w4 ⟨g3,d3,ts3,rfl,k1,k2,k3,kt,kc,kg⟩;have HX4:=hid (HX3.out.next kc kg);have HT3:Hid (TmAt w.heap.size D Z 1 (.slice (some ⟨g3,0,none⟩) ts3.length (ts3.length+d3)) w4):=hid ⟨_,_,_,rfl,k1,k2,Nat.le_trans HX3.out.gr.size k3,kt⟩;replace HT2:=hid (HT2.out.grown kg hCS);obtain ⟨c3,hc3⟩:∃c,ts3.length+d3=c:=⟨_,rfl⟩
     obtain ⟨l3,hl3⟩:∃l,ts3.length=l:=⟨_,rfl⟩
     rw[hc3,hl3] at HT3 ⊢;clear hc3;clear hl3 k1 k2 k3 kt kc kg HX3
     go_wp2_with fail
     refine (op2 9 HT2.out HT3.out hz ok9 (by decide) (by decide)).mono ?_;rintro e w99 hv;have HG:=hid (HX4.out.fin (D':=(D+1)) (Z':=(1+3*Z)) (alloc_far' w4 _) hv (by omega) (by omega));obtain ⟨g99,c99,ts99,rfl,-⟩:=hv;obtain ⟨l99,hl99⟩:∃l,ts99.length=l:=⟨_,rfl⟩
     rw[hl99] at HG ⊢;clear hl99
     go_wp2
     go_ret
     obtain ⟨g98,c98,ts98,k0,k1⟩:=HG.out;exact ⟨g98,c98,ts98,k0,k1⟩
   · go_wp2_with fail
     refine (hI 1 w2 (by decide) (by decide) HX2.out.at).mono ?_;rintro e w99 hv;have HG:=hid ((hv.after HX2.out.gr).mono (D':=(D+1)) (Z':=(1+3*Z)) (by omega) (by omega));obtain ⟨g99,c99,ts99,rfl,-⟩:=hv;obtain ⟨l99,hl99⟩:∃l,ts99.length=l:=⟨_,rfl⟩
     rw[hl99] at HG ⊢;clear hl99
     go_wp2
     go_ret
     obtain ⟨g98,c98,ts98,k0,k1⟩:=HG.out;exact ⟨g98,c98,ts98,k0,k1⟩
   · go_wp2_with fail
     refine (hF w2 HX2.out.at).mono ?_;rintro e w3 ⟨g2,d2,ts2,rfl,k1,k2,k3,kt,kc,kg⟩;have HX3:=hid (HX2.out.next kc kg);have HT2:Hid (TmAt w.heap.size D Z 1 (.slice (some ⟨g2,0,none⟩) ts2.length (ts2.length+d2)) w3):=hid ⟨_,_,_,rfl,k1,k2,Nat.le_trans HX2.out.gr.size k3,kt⟩;obtain ⟨c2,hc2⟩:∃c,ts2.length+d2=c:=⟨_,rfl⟩
     obtain ⟨l2,hl2⟩:∃l,ts2.length=l:=⟨_,rfl⟩
     rw[hc2,hl2] at HT2 ⊢;clear hc2;clear hl2 k1 k2 k3 kt kc kg HX2
     go_wp2_with fail
     refine (hF w3 HX3.out.at).mono ?_;rintro e w4 ⟨g3,d3,ts3,rfl,k1,k2,k3,kt,kc,kg⟩;have HX4:=hid (HX3.out.next kc kg);have HT3:Hid (TmAt w.heap.size D Z 1 (.slice (some ⟨g3,0,none⟩) ts3.length (ts3.length+d3)) w4):=hid ⟨_,_,_,rfl,k1,k2,Nat.le_trans HX3.out.gr.size k3,kt⟩;replace HT2:=hid (HT2.out.grown kg hCS);obtain ⟨c3,hc3⟩:∃c,ts3.length+d3=c:=⟨_,rfl⟩
     obtain ⟨l3,hl3⟩:∃l,ts3.length=l:=⟨_,rfl⟩
     rw[hc3,hl3] at HT3 ⊢;clear hc3;clear hl3 k1 k2 k3 kt kc kg HX3
     go_wp2_with fail
     refine (op2 11 HT2.out HT3.out hz (dL 1 (by decide) (by decide)) (by decide) (by decide)).mono ?_;rintro e w99 hv;have HG:=hid (HX4.out.fin (D':=(D+1)) (Z':=(1+3*Z)) (alloc_far' w4 _) hv (by omega) (by omega));obtain ⟨g99,c99,ts99,rfl,-⟩:=hv;obtain ⟨l99,hl99⟩:∃l,ts99.length=l:=⟨_,rfl⟩
     rw[hl99] at HG ⊢;clear hl99
     go_wp2
     go_ret
     obtain ⟨g98,c98,ts98,k0,k1⟩:=HG.out;exact ⟨g98,c98,ts98,k0,k1⟩
   iterate 3
    · go_wp2_with fail
      refine (hA1 w2 HX2.out.at).mono ?_;rintro e w99 hv;have HG:=hid ((hv.after HX2.out.gr).mono (D':=(D+1)) (Z':=(1+3*Z)) (by omega) (by omega));obtain ⟨g99,c99,ts99,rfl,-⟩:=hv;obtain ⟨l99,hl99⟩:∃l,ts99.length=l:=⟨_,rfl⟩
      rw[hl99] at HG ⊢;clear hl99
      go_wp2
      go_ret
      obtain ⟨g98,c98,ts98,k0,k1⟩:=HG.out;exact ⟨g98,c98,ts98,k0,k1⟩
end Go.Proofs.YthefknoicelhaaaGreatDoor.Se

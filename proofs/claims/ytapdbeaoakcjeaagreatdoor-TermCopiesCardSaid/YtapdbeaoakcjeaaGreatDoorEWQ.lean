/- What a walk that draws terms keeps; op over terms that were drawn; Num. -/
import Derived.Test.YtapdbeaoakcjeaaGreatDoorEWO
set_option maxRecDepth 100000
set_option maxHeartbeats 40000000
open Go.Lib (hid)
namespace Go.Proofs.YtapdbeaoakcjeaaGreatDoor.Se
open Go.RowKit Nmx
theorem TmAt.grown {S D Z C:Nat} {s:Int} {u:Value} {W W':World} (h:TmAt S D Z s u W) (hg:W.grownBy W' (some C)) (hC:C<S):TmAt S D Z s u W':=
 let ⟨g,c,ts,h1,h2,h3,h4,h5⟩:=h;⟨g,c,ts,h1,h2.grown hg h3 (by omega),ap h3 hg.size,h4,h5⟩
structure GX (C:Nat) (ao:Option Addr) (n cap gv:Nat) (w W:World):Prop where
 ch:Ch C ao n cap W
 vs:VarsAt W gv vs8
 lg:gv<W.heap.size
 ne:gv≠C
 gr:w.grownBy W (some C)
 lw:gv<w.heap.size
theorem GX.start {C:Nat} {ao:Option Addr} {n cap gv:Nat} {w:World} (h:Ch C ao n cap w) (hv:VarsAt w gv vs8) (hg:gv<w.heap.size) (hn:gv≠C):GX C ao n cap gv w w:=⟨h,hv,hg,hn,dc w _,hg⟩
theorem GX.next {C:Nat} {ao:Option Addr} {n cap gv:Nat} {w W W':World} (h:GX C ao n cap gv w W) (hc:Ch C ao n cap W') (hg:W.grownBy W' (some C)):GX C ao n cap gv w W':=
 ⟨hc,h.vs.grown hg h.lg h.ne,ap h.lg hg.size,h.ne,grown_trans h.gr hg,h.lw⟩
theorem GX.call {C:Nat} {ao:Option Addr} {n cap gv:Nat} {w W W':World} (h:GX C ao n cap gv w W) (hb:Below W.heap.size W W'):GX C ao n cap gv w W':=
 h.next (h.ch.call hb) (dZ (cL hb))
theorem GX.drewN {C:Nat} {ao:Option Addr} {n cap gv:Nat} {w W:World} (h:GX C ao n cap gv w W) (k:Nat):GX C ao n cap gv w (W.drewN k):=
 h.next (h.ch.drewN k) (eu (dc W _) k)
theorem GX.fin {C:Nat} {ao:Option Addr} {n cap gv:Nat} {w W W1:World} {D Z D' Z':Nat} {s:Int} {e:Ending} {w':World} (h:GX C ao n cap gv w W) (hb:Below W.heap.size W W1) (hv:VG W1 D Z s e w') (hd:D≤D') (hz:Z≤Z'):GP C ao n cap w D' Z' s e w':=
 let h1:=h.call hb
 ((hv.gp h1.ch).after h1.gr).mono hd hz
def TF (C:Nat) (ao:Option Addr) (n cap gv cv:Nat) (dep:Int) (D Z:Nat):Prop:=
 ∀(sort:Int) (w:World),1≤sort→sort≤4→GX C ao n cap gv w w→Calls Tryz.prog 26 #[.pointer (some ⟨C,0,none⟩),.int .i64 sort,.int .i64 dep,.slice (some ⟨gv,0,none⟩) 8 cv] w (GP C ao n cap w D Z sort)
def FF (C:Nat) (ao:Option Addr) (n cap gv cv:Nat) (dep:Int) (D Z:Nat):Prop:=
 ∀w:World,GX C ao n cap gv w w→Calls Tryz.prog 63 #[.pointer (some ⟨C,0,none⟩),.int .i64 dep,.slice (some ⟨gv,0,none⟩) 8 cv] w (GP C ao n cap w D Z 1)
theorem GX.at {C:Nat} {ao:Option Addr} {n cap gv:Nat} {w W:World} (h:GX C ao n cap gv w W):GX C ao n cap gv W W:=⟨h.ch,h.vs,h.lg,h.ne,dc W _,h.lg⟩
section
theorem op1 {S D Z:Nat} {s1 s:Int} {u1:Value} {W:World} (o:Int) (h1:TmAt S D Z s1 u1 W) (hz:Z≤100000) (hn:∀ks,NodeOk (ndE o 1) ks [s1] s) (h5:¬o=5) (h4:¬o=4):
    Calls Tryz.prog 64 #[.int .i64 o,.slice (some ⟨W.heap.size,0,none⟩) 1 1] (W.alloc (.cells #[u1] 22)) (VG (W.alloc (.cells #[u1] 22)) (D+1) (1+1*Z) s):=by
 obtain ⟨g1,c1,t1,rfl,a1,b1,-,d1⟩:=h1;have hb:=aD W (.cells #[.slice (some ⟨g1,0,none⟩) t1.length (t1.length+c1)] 22);have hk:=uO (t1:=t1) (heap_alloc_new W (.cells #[.slice (some ⟨g1,0,none⟩) t1.length (t1.length+c1)] 22)) (a1.below hb b1) (ap b1 hb.size);exact qJ o _ _ 1 _ hk (.cons d1 .nil) (by simp;omega) (by simp) (hn _) h5 h4
theorem op2 {S D Z:Nat} {s1 s2 s:Int} {u1 u2:Value} {W:World} (o:Int) (h1:TmAt S D Z s1 u1 W) (h2:TmAt S D Z s2 u2 W) (hz:Z≤100000) (hn:∀ks,NodeOk (ndE o 2) ks [s1,s2] s) (h5:¬o=5) (h4:¬o=4):
    Calls Tryz.prog 64 #[.int .i64 o,.slice (some ⟨W.heap.size,0,none⟩) 2 2] (W.alloc (.cells #[u1,u2] 22)) (VG (W.alloc (.cells #[u1,u2] 22)) (D+1) (1+2*Z) s):=by
 obtain ⟨g1,c1,t1,rfl,a1,b1,-,d1⟩:=h1;obtain ⟨g2,c2,t2,rfl,a2,b2,-,d2⟩:=h2;have hb:=aD W (.cells #[.slice (some ⟨g1,0,none⟩) t1.length (t1.length+c1),.slice (some ⟨g2,0,none⟩) t2.length (t2.length+c2)] 22);have hk:=zo (t1:=t1) (t2:=t2) (heap_alloc_new W (.cells #[.slice (some ⟨g1,0,none⟩) t1.length (t1.length+c1),.slice (some ⟨g2,0,none⟩) t2.length (t2.length+c2)] 22)) (a1.below hb b1) (ap b1 hb.size) (a2.below hb b2) (ap b2 hb.size);exact qJ o _ _ 2 _ hk (.cons d1 (.cons d2 .nil)) (by simp;omega) (by simp) (hn _) h5 h4
theorem yK {S D Z:Nat} {s:Int} {u2:Value} {W:World} (g1:Nat) (q:Rat) (a1:NodesAt W g1 [dI s q]) (b1:g1<W.heap.size) (d1:Tm vs8 D Z [dI s q] s) (h2:TmAt S D Z s u2 W) (hz:Z≤100000) (hs:s=2∨s=3):
    Calls Tryz.prog 64 #[.int .i64 15,.slice (some ⟨W.heap.size,0,none⟩) 2 2] (W.alloc (.cells #[.slice (some ⟨g1,0,none⟩) 1 1,u2] 22)) (VG (W.alloc (.cells #[.slice (some ⟨g1,0,none⟩) 1 1,u2] 22)) (D+1) (1+2*Z) s):=by
 obtain ⟨g2,c2,t2,rfl,a2,b2,-,d2⟩:=h2;have hb:=aD W (.cells #[.slice (some ⟨g1,0,none⟩) 1 1,.slice (some ⟨g2,0,none⟩) t2.length (t2.length+c2)] 22);have hk:=zo (t1:=[dI s q]) (t2:=t2) (heap_alloc_new W (.cells #[.slice (some ⟨g1,0,none⟩) 1 1,.slice (some ⟨g2,0,none⟩) t2.length (t2.length+c2)] 22)) (a1.below hb b1) (ap b1 hb.size) (a2.below hb b2) (ap b2 hb.size);refine qJ (D:=D) (Z:=Z) 15 _ _ 2 _ hk (.cons d1 (.cons d2 .nil)) (by simp;omega) (by simp) ?_ (by decide) (by decide);rcases hs with rfl | rfl
 · exact bt 15 _ [2,2] 2 (by decide) (by decide) (by decide) (by decide) (by decide) (by decide) (by decide) (by decide) (by decide) rfl (fun _=>rfl)
 · exact bt 15 _ [3,3] 3 (by decide) (by decide) (by decide) (by decide) (by decide) (by decide) (by decide) (by decide) (by decide) rfl (fun _=>rfl)
theorem op3 {S D Z:Nat} {s1 s2 s3 s:Int} {u1 u2 u3:Value} {W:World} (o:Int) (h1:TmAt S D Z s1 u1 W) (h2:TmAt S D Z s2 u2 W) (h3:TmAt S D Z s3 u3 W) (hz:Z≤100000) (hn:∀ks,NodeOk (ndE o 3) ks [s1,s2,s3] s) (h5:¬o=5) (h4:¬o=4):
    Calls Tryz.prog 64 #[.int .i64 o,.slice (some ⟨W.heap.size,0,none⟩) 3 3] (W.alloc (.cells #[u1,u2,u3] 22)) (VG (W.alloc (.cells #[u1,u2,u3] 22)) (D+1) (1+3*Z) s):=by
 obtain ⟨g1,c1,t1,rfl,a1,b1,-,d1⟩:=h1;obtain ⟨g2,c2,t2,rfl,a2,b2,-,d2⟩:=h2;obtain ⟨g3,c3,t3,rfl,a3,b3,-,d3⟩:=h3;have hb:=aD W (.cells #[.slice (some ⟨g1,0,none⟩) t1.length (t1.length+c1),.slice (some ⟨g2,0,none⟩) t2.length (t2.length+c2),.slice (some ⟨g3,0,none⟩) t3.length (t3.length+c3)] 22);have hk:=zW (t1:=t1) (t2:=t2) (t3:=t3) (heap_alloc_new W (.cells #[.slice (some ⟨g1,0,none⟩) t1.length (t1.length+c1),.slice (some ⟨g2,0,none⟩) t2.length (t2.length+c2),.slice (some ⟨g3,0,none⟩) t3.length (t3.length+c3)] 22)) (a1.below hb b1) (ap b1 hb.size) (a2.below hb b2) (ap b2 hb.size) (a3.below hb b3) (ap b3 hb.size);exact qJ o _ _ 3 _ hk (.cons d1 (.cons d2 (.cons d3 .nil))) (by simp;omega) (by simp) (hn _) h5 h4
theorem yo {S D Z:Nat} {s:Int} {W:World}:∀us:List Value,(∀u∈us,TmAt S D Z s u W)→∃L:List (List Nd),L.length=us.length∧Tms vs8 D Z L (List.replicate us.length s)∧∀(j:Nat) (t:List Nd),L[j]? =some t→∃g c,us[j]? =some (Value.slice (some ⟨g,0,none⟩) t.length c)∧NodesAt W g t∧g<W.heap.size:=by
 intro us
 induction us with
 | nil=>intro _;exact ⟨[],rfl,.nil,fun j t h=>by cases h⟩
 | cons u us ih=>
   intro h;obtain ⟨L,h1,h2,h3⟩:=ih (fun v hv=>h v (List.mem_cons_of_mem _ hv));obtain ⟨g,c,ts,rfl,a,b,-,d⟩:=h u (List.mem_cons_self ..);refine ⟨ts::L,by simp[h1],.cons d h2,fun j t hj=>?_⟩;cases j with
   | zero=>cases hj;exact ⟨g,ts.length+c,rfl,a,b⟩
   | succ j=>exact h3 j t hj
theorem opN {S D Z m:Nat} {s1 s:Int} {us:List Value} {v:Value} {W:World} (o:Int) (hr:W.ownsRow S 22 1 v us.length us) (h:∀u∈us,TmAt S D Z s1 u W) (hm:us.length=m) (hz:Z≤100000) (hm3:m≤3) (h0:0<W.heap.size) (hn:∀ks,NodeOk (ndE o m) ks (List.replicate m s1) s) (h5:¬o=5) (h4:¬o=4):
    Calls Tryz.prog 64 #[.int .i64 o,v] W (VG W (D+1) (1+3*Z) s):=by
 obtain ⟨L,h1,h2,h3⟩:=yo us h;have hLm:L.length=m:=h1.trans hm
 have hk:∃ak gk ck,v=.slice ak L.length ck∧Kds W ak gk L:=by
  have h':=hr;obtain ⟨_,e | ⟨g,cap,cur,hv,_⟩⟩:=h'
  · refine ⟨none,0,0,by rw[e.1,h1,e.2],fun hne=>absurd (h1.trans e.2) hne,h0,fun j t ht=>?_⟩;have:=(List.getElem?_eq_some_iff.1 ht).1
    omega
  · refine ⟨some ⟨g,0,none⟩,g,cap,by rw[hv,h1],fun _=>rfl,(hr.lt g (by rw[hv];rfl)).2,fun j t ht=>?_⟩;obtain ⟨g',c',e1,e2,e3⟩:=h3 j t ht;have hjl:=(List.getElem?_eq_some_iff.1 ht).1;rw[hv] at hr;exact ⟨g',c',(hr.cellAt j (by omega)).trans e1,e2,e3⟩
 obtain ⟨ak,gk,ck,rfl,hk⟩:=hk;rw[hm] at h2;have hmul:m*Z≤3*Z:=Nat.mul_le_mul_right Z hm3;refine (qJ (D:=D) (Z:=Z) o ak gk ck W hk h2 (by rw[hLm];omega) (by omega) (by rw[hLm];exact hn _) h5 h4).mono fun e w' hv=>?_
 obtain ⟨g,c,ts,k1,k2,k3,k4,k5,k6⟩:=hv;exact ⟨g,c,ts,k1,k2,k3,k4,k5.mono (ag _) (by rw[hLm];omega),k6⟩
theorem gF (C:Nat) (ao:Option Addr) (n cap:Nat) (s:Int) (w:World) (h:Ch C ao n cap w) (hs:s=2∨s=3):
    Calls Tryz.prog 112 #[.pointer (some ⟨C,0,none⟩),.int .i64 s] w fun e w'=>∃q:Rat,DS 26 q∧(s=3∨s=2∧q.den=1)∧e=.returned (.string (TX q))∧Ch C ao n cap w'∧w.grownBy w' (some C):=by
 have h1:=kG C ao n cap w h;have h2:=mb C ao n cap w h;clear h;rcases hs with rfl | rfl
 · clear h2
   go_enter Tryz.func112,Tryz.ntmps112
   go_wp2_with fail
   refine h1.mono ?_;rintro e w1 ⟨z,hz,rfl,hch,hg⟩;have HC:=hid hch;have HG:=hid hg;have HD:Hid (DS 26 ((z:Int):Rat)∧(((2:Int)=3)∨(2:Int)=2∧((z:Int):Rat).den=1)):=hid ⟨(DS.int (d:=24) hz).mono (by omega),.inr ⟨rfl,rfl⟩⟩;clear hch hg hz h1;generalize ((z:Int):Rat)=q at *
   go_wp2
   go_ret
   exact ⟨q,HD.out.1,HD.out.2,rfl,HC.out,HG.out⟩
 · clear h1
   go_enter Tryz.func112,Tryz.ntmps112
   go_wp2_with fail
   refine h2.mono ?_;rintro e w1 ⟨q,hq,rfl,hch,hg⟩;have HC:=hid hch;have HG:=hid hg;have HD:=hid hq;clear hch hg hq h2
   go_wp2
   go_ret
   exact ⟨q,HD.out,.inl (by decide),rfl,HC.out,HG.out⟩
end
end Go.Proofs.YtapdbeaoakcjeaaGreatDoor.Se
/- Term at depth 0, ite, atom. -/
namespace Go.Proofs.YtapdbeaoakcjeaaGreatDoor.Se
open Go.RowKit Nmx
theorem Ai (s:Int) (h:1≤s) (h4:s≤4) (ks:List Nd):NodeOk (ndE 10 3) ks [1,s,s] s:=by
 have:s=1∨s=2∨s=3∨s=4:=by omega
 rcases this with rfl | rfl | rfl | rfl
 · exact bt 10 ks [1,1,1] 1 (by decide) (by decide) (by decide) (by decide) (by decide) (by decide) (by decide) (by decide) (by decide) rfl (fun e=>absurd e (by decide))
 · exact bt 10 ks [1,2,2] 2 (by decide) (by decide) (by decide) (by decide) (by decide) (by decide) (by decide) (by decide) (by decide) rfl (fun e=>absurd e (by decide))
 · exact bt 10 ks [1,3,3] 3 (by decide) (by decide) (by decide) (by decide) (by decide) (by decide) (by decide) (by decide) (by decide) rfl (fun e=>absurd e (by decide))
 · exact bt 10 ks [1,4,4] 4 (by decide) (by decide) (by decide) (by decide) (by decide) (by decide) (by decide) (by decide) (by decide) rfl (fun e=>absurd e (by decide))
theorem zX (s:Int) (h:1≤s) (h4:s≤4) (ks:List Nd):NodeOk (ndE 11 2) ks [s,s] 1:=by
 have:s=1∨s=2∨s=3∨s=4:=by omega
 rcases this with rfl | rfl | rfl | rfl
 · exact bt 11 ks [1,1] 1 (by decide) (by decide) (by decide) (by decide) (by decide) (by decide) (by decide) (by decide) (by decide) rfl (fun e=>absurd e (by decide))
 · exact bt 11 ks [2,2] 1 (by decide) (by decide) (by decide) (by decide) (by decide) (by decide) (by decide) (by decide) (by decide) rfl (fun e=>absurd e (by decide))
 · exact bt 11 ks [3,3] 1 (by decide) (by decide) (by decide) (by decide) (by decide) (by decide) (by decide) (by decide) (by decide) rfl (fun e=>absurd e (by decide))
 · exact bt 11 ks [4,4] 1 (by decide) (by decide) (by decide) (by decide) (by decide) (by decide) (by decide) (by decide) (by decide) rfl (fun e=>absurd e (by decide))
theorem zY (o s:Int) (ho:o=11∨o=12∨o=13) (h:s=2∨s=3) (ks:List Nd):NodeOk (ndE o 2) ks [s,s] 1:=by
 rcases ho with rfl | rfl | rfl
 · rcases h with rfl | rfl
   · exact bt 11 ks [2,2] 1 (by decide) (by decide) (by decide) (by decide) (by decide) (by decide) (by decide) (by decide) (by decide) rfl (fun e=>absurd e (by decide))
   · exact bt 11 ks [3,3] 1 (by decide) (by decide) (by decide) (by decide) (by decide) (by decide) (by decide) (by decide) (by decide) rfl (fun e=>absurd e (by decide))
 · rcases h with rfl | rfl
   · exact bt 12 ks [2,2] 1 (by decide) (by decide) (by decide) (by decide) (by decide) (by decide) (by decide) (by decide) (by decide) rfl (fun e=>absurd e (by decide))
   · exact bt 12 ks [3,3] 1 (by decide) (by decide) (by decide) (by decide) (by decide) (by decide) (by decide) (by decide) (by decide) rfl (fun e=>absurd e (by decide))
 · rcases h with rfl | rfl
   · exact bt 13 ks [2,2] 1 (by decide) (by decide) (by decide) (by decide) (by decide) (by decide) (by decide) (by decide) (by decide) rfl (fun e=>absurd e (by decide))
   · exact bt 13 ks [3,3] 1 (by decide) (by decide) (by decide) (by decide) (by decide) (by decide) (by decide) (by decide) (by decide) rfl (fun e=>absurd e (by decide))
def AF (C:Nat) (ao:Option Addr) (n cap gv cv:Nat) (dep:Int) (D Z:Nat):Prop:=
 ∀w:World,GX C ao n cap gv w w→Calls Tryz.prog 111 #[.pointer (some ⟨C,0,none⟩),.int .i64 dep,.slice (some ⟨gv,0,none⟩) 8 cv] w (GP C ao n cap w D Z 1)
def IF (C:Nat) (ao:Option Addr) (n cap gv cv:Nat) (dep:Int) (D Z:Nat):Prop:=
 ∀(sort:Int) (w:World),1≤sort→sort≤4→GX C ao n cap gv w w→Calls Tryz.prog 65 #[.pointer (some ⟨C,0,none⟩),.int .i64 sort,.int .i64 dep,.slice (some ⟨gv,0,none⟩) 8 cv] w (GP C ao n cap w D Z sort)
section
theorem o7 (C:Nat) (ao:Option Addr) (n cap gv cv:Nat) (dep:Int) (hd:dep≤0):TF C ao n cap gv cv dep 3 7:=by
 intro sort w h1 h4 hx;have HX0:=hid hx;clear hx
 go_enter Tryz.func26,Tryz.ntmps26
 go_wp2_with fail
 refine (bc C ao n cap w 3 (by omega) (by omega) HX0.out.ch).mono ?_;rintro e w1 ⟨rl,hrl,rfl,hc,hg,-⟩;have HX1:=hid (HX0.out.next hc hg);clear hc hg HX0
 by_cases hl0:rl=0
 · subst hl0
   go_wp2_with fail
   refine (nR C ao n cap sort w1 HX1.out.ch h1 h4).mono ?_;rintro e w2 ⟨v,rfl,hsv,hc,hg⟩;have HX2:=hid (HX1.out.next hc hg);have hvt:=qL hsv (by have:=HX2.out.lg;omega);clear hsv hc hg
   go_wp2_with fail
   refine hvt.mono ?_;rintro e w99 ⟨g99,c99,ts99,rfl,k1,k2,k3,kt,kb⟩;have HG:Hid (GP C ao n cap w 3 7 sort (.returned (.slice (some ⟨g99,0,none⟩) ts99.length (ts99.length+c99))) w99):=hid (HX2.out.fin (ah _ _) ⟨g99,c99,ts99,rfl,k1,k2,k3,kt,kb⟩ (by omega) (by omega));obtain ⟨l99,hl99⟩:∃l,ts99.length=l:=⟨_,rfl⟩
   rw[hl99] at HG ⊢;clear hl99 k1 k2 k3 kt kb hvt
   go_wp2
   go_ret
   exact HG.out
 · have hl1:¬((rl:Int)=0):=by omega
   go_wp2_with fail
   refine (cP C ao n cap sort gv cv w1 HX1.out.ch h1 h4 HX1.out.vs HX1.out.lg).mono ?_;rintro e w99 hv;have HG:=hid ((hv.after HX1.out.gr).mono (D':=3) (Z':=7) (by omega) (by omega));obtain ⟨g99,c99,ts99,rfl,-⟩:=hv;obtain ⟨l99,hl99⟩:∃l,ts99.length=l:=⟨_,rfl⟩
   rw[hl99] at HG ⊢;clear hl99
   go_wp2
   go_ret
   obtain ⟨g98,c98,ts98,k0,k1⟩:=HG.out;exact ⟨g98,c98,ts98,k0,k1⟩
theorem si {C:Nat} {ao:Option Addr} {n cap gv cv:Nat} {dep:Int} {D Z:Nat} (hd0:0<dep) (hd1:dep≤1000) (hz:Z≤100000) (hF:FF C ao n cap gv cv (dep-1) D Z) (hT:TF C ao n cap gv cv (dep-1) D Z):IF C ao n cap gv cv dep (D+1) (1+3*Z):=by
 intro sort w h1 h4 hx;have hCS:=hx.ch.lt;have HX0:=hid hx;clear hx
 go_enter Tryz.func65,Tryz.ntmps65
 go_wp2_with fail
 refine (hF w HX0.out.at).mono ?_;rintro e w1 ⟨g0,c0,ts0,rfl,k1,k2,k3,kt,kc,kg⟩;have HX1:=hid (HX0.out.next kc kg);have HT0:Hid (TmAt w.heap.size D Z 1 (.slice (some ⟨g0,0,none⟩) ts0.length (ts0.length+c0)) w1):=hid ⟨_,_,_,rfl,k1,k2,aC HX0.out.gr.size k3,kt⟩;obtain ⟨l0,hl0⟩:∃l,ts0.length=l:=⟨_,rfl⟩
 rw[hl0] at HT0 ⊢;clear hl0 k1 k2 k3 kt kc kg HX0
 go_wp2_with fail
 refine (hT sort w1 h1 h4 HX1.out.at).mono ?_;rintro e w2 ⟨g1,c1,ts1,rfl,k1,k2,k3,kt,kc,kg⟩;have HX2:=hid (HX1.out.next kc kg);have HT1:Hid (TmAt w.heap.size D Z sort (.slice (some ⟨g1,0,none⟩) ts1.length (ts1.length+c1)) w2):=hid ⟨_,_,_,rfl,k1,k2,aC HX1.out.gr.size k3,kt⟩;replace HT0:=hid (HT0.out.grown kg hCS);obtain ⟨l1,hl1⟩:∃l,ts1.length=l:=⟨_,rfl⟩
 rw[hl1] at HT1 ⊢;clear hl1 k1 k2 k3 kt kc kg HX1
 go_wp2_with fail
 refine (hT sort w2 h1 h4 HX2.out.at).mono ?_;rintro e w3 ⟨g2,c2,ts2,rfl,k1,k2,k3,kt,kc,kg⟩;have HX3:=hid (HX2.out.next kc kg);have HT2:Hid (TmAt w.heap.size D Z sort (.slice (some ⟨g2,0,none⟩) ts2.length (ts2.length+c2)) w3):=hid ⟨_,_,_,rfl,k1,k2,aC HX2.out.gr.size k3,kt⟩;replace HT0:=hid (HT0.out.grown kg hCS);replace HT1:=hid (HT1.out.grown kg hCS);obtain ⟨l2,hl2⟩:∃l,ts2.length=l:=⟨_,rfl⟩
 rw[hl2] at HT2 ⊢;clear hl2 k1 k2 k3 kt kc kg HX2
 go_wp2_with fail
 refine (op3 10 HT0.out HT1.out HT2.out hz (Ai sort h1 h4) (by decide) (by decide)).mono ?_;rintro e w99 hv;have HG:=hid (HX3.out.fin (D':=(D+1)) (Z':=(1+3*Z)) (aD w3 _) hv (by omega) (by omega));obtain ⟨g99,c99,ts99,rfl,-⟩:=hv;obtain ⟨l99,hl99⟩:∃l,ts99.length=l:=⟨_,rfl⟩
 rw[hl99] at HG ⊢;clear hl99
 go_wp2
 go_ret
 obtain ⟨g98,c98,ts98,k0,k1⟩:=HG.out;exact ⟨g98,c98,ts98,k0,k1⟩
theorem o8 {C:Nat} {ao:Option Addr} {n cap gv cv:Nat} {dep:Int} {D Z:Nat} (hz:Z≤100000) (hz1:1≤Z) (hT:TF C ao n cap gv cv dep D Z):AF C ao n cap gv cv dep (D+1) (1+2*Z):=by
 intro w hx;have hCS:=hx.ch.lt;have hA:=aD w (.cells #[.int .i64 2,.int .i64 2,.int .i64 3,.int .i64 4,.int .i64 1] 3);have hK:=heap_alloc_new w (.cells #[.int .i64 2,.int .i64 2,.int .i64 3,.int .i64 4,.int .i64 1] 3);have HX1:=hid (hx.call hA);clear hx hA
 go_enter Tryz.func111,Tryz.ntmps111
 go_wp2_with fail
 generalize w.alloc (.cells #[.int .i64 2,.int .i64 2,.int .i64 3,.int .i64 4,.int .i64 1] 3)=w1 at *;refine (bc C ao n cap w1 5 (by omega) (by omega) HX1.out.ch).mono ?_;rintro e w2 ⟨r,hr,rfl,hc,hg,-⟩;have HX2:=hid (HX1.out.next hc hg);have hK2:=(hg.block _ (ay hK) (fun e=>by have:=aG e;omega)).trans hK;clear hc hg HX1 hK;have d0:=ac hK2 0;have d1:=ac hK2 1;have d2:=ac hK2 2;have d3:=ac hK2 3;have d4:=ac hK2 4;clear hK2;have hr5:r=0∨r=1∨r=2∨r=3∨r=4:=by omega
 clear hr;rcases hr5 with rfl | rfl | rfl | rfl | rfl
 iterate 2
  · go_wp2_with fail
    refine (bc C ao n cap w2 3 (by omega) (by omega) HX2.out.ch).mono ?_;rintro e w3 ⟨q,hq,rfl,hc,hg,-⟩;have HX3:=hid (HX2.out.next hc hg);clear hc hg HX2;obtain ⟨o,ho⟩:∃o:Int,11+(q:Int)=o:=⟨_,rfl⟩
    have ho3:o=11∨o=12∨o=13:=by omega
    go_wp2_with fail
    refine (hT 2 w3 (by decide) (by decide) HX3.out.at).mono ?_;rintro e w4 ⟨g3,c3,ts3,rfl,k1,k2,k3,kt,kc,kg⟩;have HX4:=hid (HX3.out.next kc kg);have HT3:Hid (TmAt w.heap.size D Z 2 (.slice (some ⟨g3,0,none⟩) ts3.length (ts3.length+c3)) w4):=hid ⟨_,_,_,rfl,k1,k2,aC HX3.out.gr.size k3,kt⟩;obtain ⟨l3,hl3⟩:∃l,ts3.length=l:=⟨_,rfl⟩
    rw[hl3] at HT3 ⊢;clear hl3 k1 k2 k3 kt kc kg HX3
    go_wp2_with fail
    refine (hT 2 w4 (by decide) (by decide) HX4.out.at).mono ?_;rintro e w5 ⟨g4,c4,ts4,rfl,k1,k2,k3,kt,kc,kg⟩;have HX5:=hid (HX4.out.next kc kg);have HT4:Hid (TmAt w.heap.size D Z 2 (.slice (some ⟨g4,0,none⟩) ts4.length (ts4.length+c4)) w5):=hid ⟨_,_,_,rfl,k1,k2,aC HX4.out.gr.size k3,kt⟩;replace HT3:=hid (HT3.out.grown kg hCS);obtain ⟨l4,hl4⟩:∃l,ts4.length=l:=⟨_,rfl⟩
    rw[hl4] at HT4 ⊢;clear hl4 k1 k2 k3 kt kc kg HX4
    go_wp2_with fail
    refine (op2 o HT3.out HT4.out hz (zY o 2 ho3 (by decide)) (by omega) (by omega)).mono ?_;rintro e w99 hv;have HG:=hid (HX5.out.fin (D':=(D+1)) (Z':=(1+2*Z)) (aD w5 _) hv (by omega) (by omega));obtain ⟨g99,c99,ts99,rfl,-⟩:=hv;obtain ⟨l99,hl99⟩:∃l,ts99.length=l:=⟨_,rfl⟩
    rw[hl99] at HG ⊢;clear hl99
    go_wp2
    go_ret
    obtain ⟨g98,c98,ts98,k0,k1⟩:=HG.out;exact ⟨g98,c98,ts98,k0,k1⟩
 · go_wp2_with fail
   refine (bc C ao n cap w2 3 (by omega) (by omega) HX2.out.ch).mono ?_;rintro e w3 ⟨q,hq,rfl,hc,hg,-⟩;have HX3:=hid (HX2.out.next hc hg);clear hc hg HX2;obtain ⟨o,ho⟩:∃o:Int,11+(q:Int)=o:=⟨_,rfl⟩
   have ho3:o=11∨o=12∨o=13:=by omega
   go_wp2_with fail
   refine (hT 3 w3 (by decide) (by decide) HX3.out.at).mono ?_;rintro e w4 ⟨g3,c3,ts3,rfl,k1,k2,k3,kt,kc,kg⟩;have HX4:=hid (HX3.out.next kc kg);have HT3:Hid (TmAt w.heap.size D Z 3 (.slice (some ⟨g3,0,none⟩) ts3.length (ts3.length+c3)) w4):=hid ⟨_,_,_,rfl,k1,k2,aC HX3.out.gr.size k3,kt⟩;obtain ⟨l3,hl3⟩:∃l,ts3.length=l:=⟨_,rfl⟩
   rw[hl3] at HT3 ⊢;clear hl3 k1 k2 k3 kt kc kg HX3
   go_wp2_with fail
   refine (hT 3 w4 (by decide) (by decide) HX4.out.at).mono ?_;rintro e w5 ⟨g4,c4,ts4,rfl,k1,k2,k3,kt,kc,kg⟩;have HX5:=hid (HX4.out.next kc kg);have HT4:Hid (TmAt w.heap.size D Z 3 (.slice (some ⟨g4,0,none⟩) ts4.length (ts4.length+c4)) w5):=hid ⟨_,_,_,rfl,k1,k2,aC HX4.out.gr.size k3,kt⟩;replace HT3:=hid (HT3.out.grown kg hCS);obtain ⟨l4,hl4⟩:∃l,ts4.length=l:=⟨_,rfl⟩
   rw[hl4] at HT4 ⊢;clear hl4 k1 k2 k3 kt kc kg HX4
   go_wp2_with fail
   refine (op2 o HT3.out HT4.out hz (zY o 3 ho3 (by decide)) (by omega) (by omega)).mono ?_;rintro e w99 hv;have HG:=hid (HX5.out.fin (D':=(D+1)) (Z':=(1+2*Z)) (aD w5 _) hv (by omega) (by omega));obtain ⟨g99,c99,ts99,rfl,-⟩:=hv;obtain ⟨l99,hl99⟩:∃l,ts99.length=l:=⟨_,rfl⟩
   rw[hl99] at HG ⊢;clear hl99
   go_wp2
   go_ret
   obtain ⟨g98,c98,ts98,k0,k1⟩:=HG.out;exact ⟨g98,c98,ts98,k0,k1⟩
 · go_wp2_with fail
   refine (hT 4 w2 (by decide) (by decide) HX2.out.at).mono ?_;rintro e w3 ⟨g2,c2,ts2,rfl,k1,k2,k3,kt,kc,kg⟩;have HX3:=hid (HX2.out.next kc kg);have HT2:Hid (TmAt w.heap.size D Z 4 (.slice (some ⟨g2,0,none⟩) ts2.length (ts2.length+c2)) w3):=hid ⟨_,_,_,rfl,k1,k2,aC HX2.out.gr.size k3,kt⟩;obtain ⟨l2,hl2⟩:∃l,ts2.length=l:=⟨_,rfl⟩
   rw[hl2] at HT2 ⊢;clear hl2 k1 k2 k3 kt kc kg HX2
   go_wp2_with fail
   refine (hT 4 w3 (by decide) (by decide) HX3.out.at).mono ?_;rintro e w4 ⟨g3,c3,ts3,rfl,k1,k2,k3,kt,kc,kg⟩;have HX4:=hid (HX3.out.next kc kg);have HT3:Hid (TmAt w.heap.size D Z 4 (.slice (some ⟨g3,0,none⟩) ts3.length (ts3.length+c3)) w4):=hid ⟨_,_,_,rfl,k1,k2,aC HX3.out.gr.size k3,kt⟩;replace HT2:=hid (HT2.out.grown kg hCS);obtain ⟨l3,hl3⟩:∃l,ts3.length=l:=⟨_,rfl⟩
   rw[hl3] at HT3 ⊢;clear hl3 k1 k2 k3 kt kc kg HX3
   go_wp2_with fail
   refine (op2 11 HT2.out HT3.out hz (zX 4 (by decide) (by decide)) (by decide) (by decide)).mono ?_;rintro e w99 hv;have HG:=hid (HX4.out.fin (D':=(D+1)) (Z':=(1+2*Z)) (aD w4 _) hv (by omega) (by omega));obtain ⟨g99,c99,ts99,rfl,-⟩:=hv;obtain ⟨l99,hl99⟩:∃l,ts99.length=l:=⟨_,rfl⟩
   rw[hl99] at HG ⊢;clear hl99
   go_wp2
   go_ret
   obtain ⟨g98,c98,ts98,k0,k1⟩:=HG.out;exact ⟨g98,c98,ts98,k0,k1⟩
 · go_wp2_with fail
   refine (bc C ao n cap w2 3 (by omega) (by omega) HX2.out.ch).mono ?_;rintro e w3 ⟨q,hq,rfl,hc,hg,-⟩;have HX3:=hid (HX2.out.next hc hg);clear hc hg HX2
   by_cases hq0:q=0
   · subst hq0
     go_wp2_with fail
     refine (bc C ao n cap w3 2 (by omega) (by omega) HX3.out.ch).mono ?_;rintro e w4 ⟨p,hp,rfl,hc,hg,-⟩;have HX4:=hid (HX3.out.next hc hg);clear hc hg HX3;have hp2:p=0∨p=1:=by omega
     clear hp;rcases hp2 with rfl | rfl
     · go_wp2_with fail
       refine (kw false _).mono ?_;rintro e w99 ho;have hv:=VG.one ho (o6 false);clear ho;have HG:=hid (HX4.out.fin (D':=D+1) (Z':=1+2*Z) (ah _ _) hv (by omega) (by omega));obtain ⟨g99,c99,ts99,rfl,-⟩:=hv;obtain ⟨l99,hl99⟩:∃l,ts99.length=l:=⟨_,rfl⟩
       rw[hl99] at HG ⊢;clear hl99
       go_wp2
       go_ret
       obtain ⟨g98,c98,ts98,k0,k1⟩:=HG.out;exact ⟨g98,c98,ts98,k0,k1⟩
     · go_wp2_with fail
       refine (kw true _).mono ?_;rintro e w99 ho;have hv:=VG.one ho (o6 true);clear ho;have HG:=hid (HX4.out.fin (D':=D+1) (Z':=1+2*Z) (ah _ _) hv (by omega) (by omega));obtain ⟨g99,c99,ts99,rfl,-⟩:=hv;obtain ⟨l99,hl99⟩:∃l,ts99.length=l:=⟨_,rfl⟩
       rw[hl99] at HG ⊢;clear hl99
       go_wp2
       go_ret
       obtain ⟨g98,c98,ts98,k0,k1⟩:=HG.out;exact ⟨g98,c98,ts98,k0,k1⟩
   · have hq1:¬((q:Int)=0):=by omega
     go_wp2_with fail
     refine (cP C ao n cap 1 gv cv w3 HX3.out.ch (by decide) (by decide) HX3.out.vs HX3.out.lg).mono ?_;rintro e w99 hv;have HG:=hid ((hv.after HX3.out.gr).mono (D':=(D+1)) (Z':=(1+2*Z)) (by omega) (by omega));obtain ⟨g99,c99,ts99,rfl,-⟩:=hv;obtain ⟨l99,hl99⟩:∃l,ts99.length=l:=⟨_,rfl⟩
     rw[hl99] at HG ⊢;clear hl99
     go_wp2
     go_ret
     obtain ⟨g98,c98,ts98,k0,k1⟩:=HG.out;exact ⟨g98,c98,ts98,k0,k1⟩
end
end Go.Proofs.YtapdbeaoakcjeaaGreatDoor.Se

/- Formula, one level deeper. -/
import Derived.Test.YtapdbeaoakcjeaaGreatDoorEWQ
set_option maxRecDepth 100000
set_option maxHeartbeats 40000000
open Go.Lib (hid)
namespace Go.Proofs.YtapdbeaoakcjeaaGreatDoor.Se
open Go.RowKit Nmx
theorem xd:(Tryz.prog.info? 22).map (fun i=>(i.zero,i.size,i.bytes))=some (some (.slice none 0 0),1,24):=by kernel_rfl
theorem GX.own {C:Nat} {ao:Option Addr} {n cap gv:Nat} {w W W':World} {r:Option Nat} (h:GX C ao n cap gv w W) (hg:W.grownBy W' r) (hr:∀k,r=some k→w.heap.size≤k) (hC:C<w.heap.size):GX C ao n cap gv w W':=
 have hlw:=h.lw;have hv:∀j,W'.cell? ⟨gv,j,none⟩=W.cell? ⟨gv,j,none⟩:=fun j=>World.cell?_of_block (hg.block gv h.lg (fun e=>by have:=hr gv e.symm;omega))
 ⟨h.ch.grown hg (fun k e=>by have:=hr k e;omega),fun j p hp=>⟨(hv _).trans (h.vs j p hp).1,(hv _).trans (h.vs j p hp).2⟩,ap h.lg hg.size,h.ne,
   ⟨hg.os.trans h.gr.os,hg.tape.trans h.gr.tape,hg.output.trans h.gr.output,aC h.gr.size hg.size,fun k hk hne=>(hg.block k (ap hk h.gr.size) (fun e=>by have:=hr k e.symm;omega)).trans (h.gr.block k hk hne)⟩,hlw⟩
theorem TmAt.kept {S D Z m:Nat} {s:Int} {u v:Value} {us:List Value} {e:TypeId} {W W':World} (h:TmAt S D Z s u W) (hr:W.ownsRow S e 1 v m us) (hus:∀x∈us,∃a n c,x=.slice a n c) (hm:us.length=m) (hnil:m=0→v=.slice none 0 0) (hg:W.grownBy W' v.ownBlock):TmAt S D Z s u W':=by
 obtain ⟨g,c,ts,rfl,h2,h3,h4,h5⟩:=h
 have hne:some g≠v.ownBlock:=by
  intro e1
  have hv:∃cc,v=.slice (some ⟨g,0,none⟩) m cc:=by
   have h':=hr;obtain ⟨_,e2 | ⟨g',cap,cur,hv,_⟩⟩:=h'
   · rw[e2.1] at e1;cases e1
   · rw[hv] at e1;have e3:g=g':=aG e1;subst e3;exact ⟨cap,hv⟩
  obtain ⟨cc,hv⟩:=hv
  have hm0:0<m:=by
   rcases Nat.eq_zero_or_pos m with h0 | h0
   · rw[hnil h0] at e1;cases e1
   · exact h0
  rw[hv] at hr;have hc:=hr.cellAt 0 (by omega);obtain ⟨E,Sx,hw⟩:=h5.wt;obtain ⟨d',x,ks,ss,rest,_,_,_,_,-,rfl,-⟩:=hw.step;have hn:=h2 0 x rfl 0 (by decide);have hu:0<us.length:=by omega
  obtain ⟨a,n',c',ea⟩:=hus us[0] (List.getElem_mem hu);rw[aq hu,ea] at hc;have hn2:W.cell? ⟨g,0,none⟩=some (.int .i64 x.op):=hn;rw[hn2] at hc;cases hc
 exact ⟨g,c,ts,rfl,fun i x hx j hj=>(World.cell?_of_block (hg.block g h3 hne)).trans (h2 i x hx j hj),ap h3 hg.size,h4,h5⟩
theorem TmAt.sl {S D Z:Nat} {s:Int} {u:Value} {W:World} (h:TmAt S D Z s u W):∃a n c,u=.slice a n c:=let ⟨_,_,_,h1,_⟩:=h;⟨_,_,_,h1⟩
structure TRow (w:World) (D Z m:Nat) (s:Int) (v:Value) (us:List Value) (W:World):Prop where
 row:W.ownsRow w.heap.size 22 1 v m us
 len:us.length=m
 tms:∀u∈us,TmAt w.heap.size D Z s u W
 nil:m=0→v=.slice none 0 0
theorem TRow.grown {w:World} {D Z m C:Nat} {s:Int} {v:Value} {us:List Value} {W W':World} (h:TRow w D Z m s v us W) (hg:W.grownBy W' (some C)) (hC:C<w.heap.size):TRow w D Z m s v us W':=
 ⟨h.row.kept hg (.inr (fun e=>by have:=(h.row.lt C e).1;omega)),h.len,fun u hu=>(h.tms u hu).grown hg hC,h.nil⟩
theorem TRow.alloc {w:World} {D Z m:Nat} {s:Int} {v:Value} {us:List Value} {W:World} (h:TRow w D Z m s v us W) (o:Obj):TRow w D Z m s v us (W.alloc o):=
 ⟨h.row.alloc o,h.len,fun u hu=>(h.tms u hu).far (aD W o),h.nil⟩
theorem TRow.push {w:World} {D Z m:Nat} {s:Int} {v v' u:Value} {us:List Value} {W W':World} (h:TRow w D Z m s v us W) (hu:TmAt w.heap.size D Z s u W) (hg:W.grownBy W' v.ownBlock) (hr:W'.ownsRow w.heap.size 22 1 v' (m+1) (us++[u])):TRow w D Z (m+1) s v' (us++[u]) W':=by
 have hk:∀x,TmAt w.heap.size D Z s x W→TmAt w.heap.size D Z s x W':=fun x hx=>hx.kept h.row (fun y hy=>(h.tms y hy).sl) h.len h.nil hg
 refine ⟨hr,by rw[aA,h.len];rfl,fun x hx=>?_,fun e=>by omega⟩;rcases List.mem_append.1 hx with hx | hx
 · exact hk x (h.tms x hx)
 · rw[List.mem_singleton] at hx;subst hx;exact hk x hu
theorem Aj (o:Int) (ho:o=7∨o=8) (m:Nat) (hm:m≤3) (ks:List Nd):NodeOk (ndE o m) ks (List.replicate m 1) 1:=by
 have:m=0∨m=1∨m=2∨m=3:=by omega
 rcases ho with rfl | rfl
 · rcases this with rfl | rfl | rfl | rfl
   · exact bt 7 ks [] 1 (by decide) (by decide) (by decide) (by decide) (by decide) (by decide) (by decide) (by decide) (by decide) rfl (fun e=>absurd e (by decide))
   · exact bt 7 ks [1] 1 (by decide) (by decide) (by decide) (by decide) (by decide) (by decide) (by decide) (by decide) (by decide) rfl (fun e=>absurd e (by decide))
   · exact bt 7 ks [1,1] 1 (by decide) (by decide) (by decide) (by decide) (by decide) (by decide) (by decide) (by decide) (by decide) rfl (fun e=>absurd e (by decide))
   · exact bt 7 ks [1,1,1] 1 (by decide) (by decide) (by decide) (by decide) (by decide) (by decide) (by decide) (by decide) (by decide) rfl (fun e=>absurd e (by decide))
 · rcases this with rfl | rfl | rfl | rfl
   · exact bt 8 ks [] 1 (by decide) (by decide) (by decide) (by decide) (by decide) (by decide) (by decide) (by decide) (by decide) rfl (fun e=>absurd e (by decide))
   · exact bt 8 ks [1] 1 (by decide) (by decide) (by decide) (by decide) (by decide) (by decide) (by decide) (by decide) (by decide) rfl (fun e=>absurd e (by decide))
   · exact bt 8 ks [1,1] 1 (by decide) (by decide) (by decide) (by decide) (by decide) (by decide) (by decide) (by decide) (by decide) rfl (fun e=>absurd e (by decide))
   · exact bt 8 ks [1,1,1] 1 (by decide) (by decide) (by decide) (by decide) (by decide) (by decide) (by decide) (by decide) (by decide) rfl (fun e=>absurd e (by decide))
theorem ok6 (ks:List Nd):NodeOk (ndE 6 1) ks [1] 1:=bt 6 ks [1] 1 (by decide) (by decide) (by decide) (by decide) (by decide) (by decide) (by decide) (by decide) (by decide) rfl (fun e=>absurd e (by decide))
theorem ok9 (ks:List Nd):NodeOk (ndE 9 2) ks [1,1] 1:=bt 9 ks [1,1] 1 (by decide) (by decide) (by decide) (by decide) (by decide) (by decide) (by decide) (by decide) (by decide) rfl (fun e=>absurd e (by decide))
section
theorem lE {C:Nat} {ao:Option Addr} {n cap gv cv:Nat} {dep:Int} {D Z:Nat} (hd0:0<dep) (hd1:dep≤1000) (hz:Z≤100000) (hz7:7≤Z) (hD3:3≤D) (hF:FF C ao n cap gv cv (dep-1) D Z) (hT:TF C ao n cap gv cv (dep-1) D Z):FF C ao n cap gv cv dep (D+1) (1+3*Z):=by
 obtain ⟨i0,hi,hz0,hz1,hz2⟩:=info_parts xd;have hA0:=o8 (cv:=cv) (dep:=0) (by decide) (by decide) (o7 C ao n cap gv cv 0 (Int.le_refl 0));have hA1:=o8 hz (by omega) hT;have hI:=si hd0 hd1 hz hF hT;intro w hx;have hCS:=hx.ch.lt;have hlf:=qI C ao n cap w hx.ch;have hdn:¬dep≤0:=by omega
 go_enter Tryz.func63,Tryz.ntmps63
 go_wp2_with fail
 refine hlf.mono ?_;rintro e w1 ⟨b,kk,rfl,rfl⟩;have HX1:=hid (hx.drewN kk);generalize w.drewN kk=w1 at *;clear hlf hx;cases b
 · go_wp2_with fail
   refine (hA0 w1 HX1.out.at).mono ?_;rintro e w99 hv;have HG:=hid ((hv.after HX1.out.gr).mono (D':=(D+1)) (Z':=(1+3*Z)) (by omega) (by omega));obtain ⟨g99,c99,ts99,rfl,-⟩:=hv;obtain ⟨l99,hl99⟩:∃l,ts99.length=l:=⟨_,rfl⟩
   rw[hl99] at HG ⊢;clear hl99
   go_wp2
   go_ret
   obtain ⟨g98,c98,ts98,k0,k1⟩:=HG.out;exact ⟨g98,c98,ts98,k0,k1⟩
 · go_wp2_with fail
   refine (bc C ao n cap w1 12 (by omega) (by omega) HX1.out.ch).mono ?_;rintro e w2 ⟨r,hr,rfl,hc,hg,-⟩;have HX2:=hid (HX1.out.next hc hg);clear hc hg HX1;have hr12:r=0∨r=1∨r=2∨r=3∨r=4∨r=5∨r=6∨r=7∨r=8∨r=9∨r=10∨r=11:=by omega
   clear hr;rcases hr12 with rfl | rfl | rfl | rfl | rfl | rfl | rfl | rfl | rfl | rfl | rfl | rfl
   iterate 2
    · go_wp2_with fail
      refine (hF w2 HX2.out.at).mono ?_;rintro e w3 ⟨g2,d2,ts2,rfl,k1,k2,k3,kt,kc,kg⟩;have HX3:=hid (HX2.out.next kc kg);have HT2:Hid (TmAt w.heap.size D Z 1 (.slice (some ⟨g2,0,none⟩) ts2.length (ts2.length+d2)) w3):=hid ⟨_,_,_,rfl,k1,k2,aC HX2.out.gr.size k3,kt⟩;obtain ⟨c2,hc2⟩:∃c,ts2.length+d2=c:=⟨_,rfl⟩
      obtain ⟨l2,hl2⟩:∃l,ts2.length=l:=⟨_,rfl⟩
      rw[hc2,hl2] at HT2 ⊢;clear hc2;clear hl2 k1 k2 k3 kt kc kg HX2
      go_wp2_with fail
      refine (op1 6 HT2.out hz ok6 (by decide) (by decide)).mono ?_;rintro e w99 hv;have HG:=hid (HX3.out.fin (D':=(D+1)) (Z':=(1+3*Z)) (aD w3 _) hv (by omega) (by omega));obtain ⟨g99,c99,ts99,rfl,-⟩:=hv;obtain ⟨l99,hl99⟩:∃l,ts99.length=l:=⟨_,rfl⟩
      rw[hl99] at HG ⊢;clear hl99
      go_wp2
      go_ret
      obtain ⟨g98,c98,ts98,k0,k1⟩:=HG.out;exact ⟨g98,c98,ts98,k0,k1⟩
   iterate 4
    · go_wp2_with fail
      refine (bc C ao n cap w2 4 (by omega) (by omega) HX2.out.ch).mono ?_;rintro e w3 ⟨m0,hm0,rfl,hc,hg,-⟩;have HX3:=hid (HX2.out.next hc hg);clear hc hg HX2;have HTR:Hid (TRow w D Z 0 1 (.slice none 0 0) [] w3):=hid ⟨World.ownsRow_nil _ _ _ _,rfl,fun u h=>(by cases h),fun _=>rfl⟩;have hm3:m0≤3:=by omega
      clear hm0
      go_wp2
      go_loopw [7,8] (fun v i wr=>∃(k m:Nat) (us:List Value),i=.int .i64 m∧k+m≤3∧TRow w D Z k 1 v us wr∧GX C ao n cap gv w wr) (fun _ i _=>(intOf i).toNat)
      case atStart=>exact ⟨0,m0,[],rfl,by omega,HTR.out,HX3.out⟩
      case round=>
       clear HTR HX3 hm3;obtain ⟨k,m,us,rfl,hkm,htr,hgx⟩:=hrel;have HTR:=hid htr;have HX50:=hid hgx;clear htr hgx
       by_cases hm:0<m
       · have hmI:(0:Int)<(m:Int):=by omega
         go_wp2_with fail
         refine (hF wr HX50.out.at).mono ?_;rintro e w51 ⟨g50,d50,ts50,rfl,k1,k2,k3,kt,kc,kg⟩;have HX51:=hid (HX50.out.next kc kg);have HT50:Hid (TmAt w.heap.size D Z 1 (.slice (some ⟨g50,0,none⟩) ts50.length (ts50.length+d50)) w51):=hid ⟨_,_,_,rfl,k1,k2,aC HX50.out.gr.size k3,kt⟩;obtain ⟨c50,hc50⟩:∃c,ts50.length+d50=c:=⟨_,rfl⟩
         obtain ⟨l50,hl50⟩:∃l,ts50.length=l:=⟨_,rfl⟩
         rw[hc50,hl50] at HT50 ⊢;clear hc50;have HTR2:=hid (HTR.out.grown kg hCS);clear HTR hl50 k1 k2 k3 kt kc kg HX50;have hwz:=HX51.out.gr.size;have HTR3:=hid (HTR2.out.alloc (.cells #[.slice (some ⟨g50,0,none⟩) l50 c50] 22));have HT53:=hid (HT50.out.far (aD w51 (.cells #[.slice (some ⟨g50,0,none⟩) l50 c50] 22)));have HX53:=hid (HX51.out.call (aD w51 (.cells #[.slice (some ⟨g50,0,none⟩) l50 c50] 22)))
         go_wp2_with (at_builtin;go_loud (refine wpList_append_own _ rfl _ _ 29 rfl w.heap.size 22 i0 _ 1 24 Tryz.underlying29 hi hz0 hz1 hz2 rfl (by decide) _ k us rfl HTR3.out.row ⟨w51.heap.size,0,none⟩ 1 1 [.slice (some ⟨g50,0,none⟩) l50 c50] rfl rfl (World.news_of_block (cs:=#[.slice (some ⟨g50,0,none⟩) l50 c50]) (t:=22) (fr:=(0,0)) (heap_alloc_new w51 _)) (by simp[Value.oneCell']) (by unfold maxLen;omega) (by omega) (by simp;omega) ?_))
         intro v' w54 hown' hgrow _;have HTR4:=hid (HTR3.out.push HT53.out hgrow hown');have HX54:=hid (HX53.out.own hgrow (fun j e=>(HTR3.out.row.lt j e).1) hCS);clear hown' hgrow HTR3 HTR2 HT53 HT50 HX53 HX51
         go_wp2
         go_roundw
         case rel=>exact ⟨k+1,m-1,us++[.slice (some ⟨g50,0,none⟩) l50 c50],by go_num,by omega,HTR4.out,HX54.out⟩
         case measure=>simp[intOf];omega
       · obtain rfl:m=0:=by omega
         go_wp2_with fail
         refine (bc C ao n cap wr 2 (by omega) (by omega) HX50.out.ch).mono ?_;rintro e w51 ⟨p,hp,rfl,hc,hg,-⟩;have HX51:=hid (HX50.out.next hc hg);have HTR2:=hid (HTR.out.grown hg hCS);clear HTR hc hg HX50;obtain ⟨o,ho⟩:∃o:Int,7+(p:Int)=o:=⟨_,rfl⟩
         have ho2:o=7∨o=8:=by omega
         have hop:=opN (s:=1) o (by rw[HTR2.out.len];exact HTR2.out.row) HTR2.out.tms HTR2.out.len hz (by omega) (by have:=HX51.out.lg;omega) (Aj o ho2 k (by omega)) (by omega) (by omega);clear HTR2
         go_wp2_with fail
         refine (hop).mono ?_;rintro e w99 hv;have HG:=hid (HX51.out.fin (D':=(D+1)) (Z':=(1+3*Z)) (ah _ _) hv (by omega) (by omega));obtain ⟨g99,c99,ts99,rfl,-⟩:=hv;obtain ⟨l99,hl99⟩:∃l,ts99.length=l:=⟨_,rfl⟩
         rw[hl99] at HG ⊢;clear hl99
         go_wp2
         go_ret
         obtain ⟨g98,c98,ts98,k0,k1⟩:=HG.out;exact ⟨g98,c98,ts98,k0,k1⟩
   · go_wp2_with fail
     refine (hF w2 HX2.out.at).mono ?_;rintro e w3 ⟨g2,d2,ts2,rfl,k1,k2,k3,kt,kc,kg⟩;have HX3:=hid (HX2.out.next kc kg);have HT2:Hid (TmAt w.heap.size D Z 1 (.slice (some ⟨g2,0,none⟩) ts2.length (ts2.length+d2)) w3):=hid ⟨_,_,_,rfl,k1,k2,aC HX2.out.gr.size k3,kt⟩;obtain ⟨c2,hc2⟩:∃c,ts2.length+d2=c:=⟨_,rfl⟩
     obtain ⟨l2,hl2⟩:∃l,ts2.length=l:=⟨_,rfl⟩
     rw[hc2,hl2] at HT2 ⊢;clear hc2;clear hl2 k1 k2 k3 kt kc kg HX2
     go_wp2_with fail
     refine (hF w3 HX3.out.at).mono ?_;rintro e w4 ⟨g3,d3,ts3,rfl,k1,k2,k3,kt,kc,kg⟩;have HX4:=hid (HX3.out.next kc kg);have HT3:Hid (TmAt w.heap.size D Z 1 (.slice (some ⟨g3,0,none⟩) ts3.length (ts3.length+d3)) w4):=hid ⟨_,_,_,rfl,k1,k2,aC HX3.out.gr.size k3,kt⟩;replace HT2:=hid (HT2.out.grown kg hCS);obtain ⟨c3,hc3⟩:∃c,ts3.length+d3=c:=⟨_,rfl⟩
     obtain ⟨l3,hl3⟩:∃l,ts3.length=l:=⟨_,rfl⟩
     rw[hc3,hl3] at HT3 ⊢;clear hc3;clear hl3 k1 k2 k3 kt kc kg HX3
     go_wp2_with fail
     refine (op2 9 HT2.out HT3.out hz ok9 (by decide) (by decide)).mono ?_;rintro e w99 hv;have HG:=hid (HX4.out.fin (D':=(D+1)) (Z':=(1+3*Z)) (aD w4 _) hv (by omega) (by omega));obtain ⟨g99,c99,ts99,rfl,-⟩:=hv;obtain ⟨l99,hl99⟩:∃l,ts99.length=l:=⟨_,rfl⟩
     rw[hl99] at HG ⊢;clear hl99
     go_wp2
     go_ret
     obtain ⟨g98,c98,ts98,k0,k1⟩:=HG.out;exact ⟨g98,c98,ts98,k0,k1⟩
   · go_wp2_with fail
     refine (hI 1 w2 (by decide) (by decide) HX2.out.at).mono ?_;rintro e w99 hv;have HG:=hid ((hv.after HX2.out.gr).mono (D':=(D+1)) (Z':=(1+3*Z)) (by omega) (by omega));obtain ⟨g99,c99,ts99,rfl,-⟩:=hv;obtain ⟨l99,hl99⟩:∃l,ts99.length=l:=⟨_,rfl⟩
     rw[hl99] at HG ⊢;clear hl99
     go_wp2
     go_ret
     obtain ⟨g98,c98,ts98,k0,k1⟩:=HG.out;exact ⟨g98,c98,ts98,k0,k1⟩
   · go_wp2_with fail
     refine (hF w2 HX2.out.at).mono ?_;rintro e w3 ⟨g2,d2,ts2,rfl,k1,k2,k3,kt,kc,kg⟩;have HX3:=hid (HX2.out.next kc kg);have HT2:Hid (TmAt w.heap.size D Z 1 (.slice (some ⟨g2,0,none⟩) ts2.length (ts2.length+d2)) w3):=hid ⟨_,_,_,rfl,k1,k2,aC HX2.out.gr.size k3,kt⟩;obtain ⟨c2,hc2⟩:∃c,ts2.length+d2=c:=⟨_,rfl⟩
     obtain ⟨l2,hl2⟩:∃l,ts2.length=l:=⟨_,rfl⟩
     rw[hc2,hl2] at HT2 ⊢;clear hc2;clear hl2 k1 k2 k3 kt kc kg HX2
     go_wp2_with fail
     refine (hF w3 HX3.out.at).mono ?_;rintro e w4 ⟨g3,d3,ts3,rfl,k1,k2,k3,kt,kc,kg⟩;have HX4:=hid (HX3.out.next kc kg);have HT3:Hid (TmAt w.heap.size D Z 1 (.slice (some ⟨g3,0,none⟩) ts3.length (ts3.length+d3)) w4):=hid ⟨_,_,_,rfl,k1,k2,aC HX3.out.gr.size k3,kt⟩;replace HT2:=hid (HT2.out.grown kg hCS);obtain ⟨c3,hc3⟩:∃c,ts3.length+d3=c:=⟨_,rfl⟩
     obtain ⟨l3,hl3⟩:∃l,ts3.length=l:=⟨_,rfl⟩
     rw[hc3,hl3] at HT3 ⊢;clear hc3;clear hl3 k1 k2 k3 kt kc kg HX3
     go_wp2_with fail
     refine (op2 11 HT2.out HT3.out hz (zX 1 (by decide) (by decide)) (by decide) (by decide)).mono ?_;rintro e w99 hv;have HG:=hid (HX4.out.fin (D':=(D+1)) (Z':=(1+3*Z)) (aD w4 _) hv (by omega) (by omega));obtain ⟨g99,c99,ts99,rfl,-⟩:=hv;obtain ⟨l99,hl99⟩:∃l,ts99.length=l:=⟨_,rfl⟩
     rw[hl99] at HG ⊢;clear hl99
     go_wp2
     go_ret
     obtain ⟨g98,c98,ts98,k0,k1⟩:=HG.out;exact ⟨g98,c98,ts98,k0,k1⟩
   iterate 3
    · go_wp2_with fail
      refine (hA1 w2 HX2.out.at).mono ?_;rintro e w99 hv;have HG:=hid ((hv.after HX2.out.gr).mono (D':=(D+1)) (Z':=(1+3*Z)) (by omega) (by omega));obtain ⟨g99,c99,ts99,rfl,-⟩:=hv;obtain ⟨l99,hl99⟩:∃l,ts99.length=l:=⟨_,rfl⟩
      rw[hl99] at HG ⊢;clear hl99
      go_wp2
      go_ret
      obtain ⟨g98,c98,ts98,k0,k1⟩:=HG.out;exact ⟨g98,c98,ts98,k0,k1⟩
end
end Go.Proofs.YtapdbeaoakcjeaaGreatDoor.Se

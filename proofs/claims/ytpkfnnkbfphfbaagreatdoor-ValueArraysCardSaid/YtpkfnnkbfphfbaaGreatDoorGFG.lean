/- Drawn arrays. -/
import Derived.Test.YtpkfnnkbfphfbaaGreatDoorGFC
import Derived.Test.YtpkfnnkbfphfbaaGreatDoorGEU
set_option maxRecDepth 100000
set_option maxHeartbeats 40000000
namespace Go.Proofs.YtpkfnnkbfphfbaaGreatDoor.Se
open Go.RowKit Nmx

theorem av_nil0 (S:Nat) (w:World) {d:Int} (hd:Sm d):AV S w d [] (.slice none 0 0) (.slice none 0 0):=
  ⟨World.ownsRow_nil _ _ _ _,World.ownsRow_nil _ _ _ _,trivial,hd,(fun p hp=>by cases hp),Nat.zero_le _⟩
theorem AV.blocks {S:Nat} {w w':World} {d:Int} {l:Arx.L} {k u:Value} (h:AV S w d l k u) (hb:∀g,S≤g→(∃cs fr,w.heap[g]? =some (.cells cs 9 fr))→w'.heap[g]? =w.heap[g]?):AV S w' d l k u:=by
  have key:∀{v:Value} {ts:List ByteArray},SRow S w v ts→SRow S w' v ts:=by
    intro v ts hv
    refine ownsRow_block hv fun g hg=>?_
    obtain ⟨-,h0 | ⟨g',cap,cur,rfl,hbg,hh,-⟩⟩:=id hv
    · rw[h0.1] at hg;cases hg
    · obtain rfl:g'=g:=Option.some.inj hg
      exact hb _ hbg ⟨_,_,hh⟩
  exact ⟨key h.ks,key h.us,h.vd,h.sd,h.sl,h.ln⟩
theorem AV.ch {S C:Nat} {w w':World} {d:Int} {l:Arx.L} {k u:Value} (h:AV S w d l k u) (hC:C<S) (hg:w.grownBy w' (some C)):AV S w' d l k u:=
  h.blocks fun g hS ⟨_,_,hh⟩=>hg.block g (lt_of_heap hh) fun e=>by have:=Option.some.inj e;omega
structure VJ2 (C:Nat) (ao:Option Addr) (n cap:Nat) (w:World) (R V S:Nat) (d:Int) (l:Arx.L) (k0 u0:Value) (td:ByteArray) (l2 l4 l5 l6 l7 l9:Bool) (x2 x4 x5 x6 x7:Value) (W:World):Prop where
  ch:Ch C ao n cap W
  gr:w.grownBy W (some C)∧C<S∧S≤R∧S≤V∧R≠V∧S=w.heap.size
  rb:W.heap[R]? =some (.cells #[.int .i64 0,.bool false,.string ⟨#[]⟩,.slice none 0 0,.slice none 0 0] 24 (0,0))
  av:AV S W d l k0 u0
  vb:l9=false→W.heap[V]? =some (.cells #[.int .i64 4,.bool false,.string td,k0,u0] 24 (0,0))
  vc:l9=true→∃k' u',x5=.tuple #[.agg #[.int .i64 4,.bool false,.string td,k',u'],.int .i64 0]∧W.heap[V]? =some (.cells #[.int .i64 4,.bool false,.string td,k',u'] 24 (0,0))
  s2:l2=true→∃z,Sm z∧x2=.string (TI z)
  s4:l4=true→∃z,Sm z∧x4=.string (TI z)
  s5:l5=true→∃z1 z2 k' u',x5=.tuple #[.agg #[.int .i64 4,.bool false,.string td,k',u'],.int .i64 0]∧AV S W d (Arx.stA d l z1 z2) k' u'
  s6:l6=true→x6=x5
  s7:l7=true→x5=.tuple #[x7,.int .i64 0]
section
variable {C:Nat} {ao:Option Addr} {n cap:Nat} {w:World} {R V S:Nat} {d:Int} {l:Arx.L} {k0 u0:Value} {td:ByteArray} {l2 l4 l5 l6 l7 l9:Bool} {x2 x4 x5 x6 x7:Value} {W W':World}
theorem VJ2.sz (h:VJ2 C ao n cap w R V S d l k0 u0 td l2 l4 l5 l6 l7 l9 x2 x4 x5 x6 x7 W):S≤W.heap.size:=Nat.le_trans h.gr.2.2.1 (Nat.le_of_lt (lt_of_heap h.rb))
theorem VJ2.int (h:VJ2 C ao n cap w R V S d l k0 u0 td l2 l4 l5 l6 l7 l9 x2 x4 x5 x6 x7 W) (hc:Ch C ao n cap W') (hg:W.grownBy W' (some C)):VJ2 C ao n cap w R V S d l k0 u0 td l2 l4 l5 l6 l7 l9 x2 x4 x5 x6 x7 W' where
  ch:=hc
  gr:=⟨grown_trans h.gr.1 hg,h.gr.2⟩
  rb:=(hg.block _ (lt_of_heap h.rb) (fun e=>by have:=Option.some.inj e;have:=h.gr.2;omega)).trans h.rb
  av:=h.av.ch h.gr.2.1 hg
  vb:=fun e=>(hg.block _ (lt_of_heap (h.vb e)) (fun e=>by have:=Option.some.inj e;have:=h.gr.2;omega)).trans (h.vb e)
  vc:=fun e=>let ⟨k',u',h1,h2⟩:=h.vc e;⟨k',u',h1,(hg.block _ (lt_of_heap h2) (fun e=>by have:=Option.some.inj e;have:=h.gr.2;omega)).trans h2⟩
  s2:=h.s2
  s4:=h.s4
  s5:=fun e=>let ⟨z1,z2,k',u',h1,h2⟩:=h.s5 e;⟨z1,z2,k',u',h1,h2.ch h.gr.2.1 hg⟩
  s6:=h.s6
  s7:=h.s7
theorem VJ2.far (h:VJ2 C ao n cap w R V S d l k0 u0 td l2 l4 l5 l6 l7 l9 x2 x4 x5 x6 x7 W) (hb:Below W.heap.size W W'):VJ2 C ao n cap w R V S d l k0 u0 td l2 l4 l5 l6 l7 l9 x2 x4 x5 x6 x7 W':=
  h.int (h.ch.call hb) (grown_more (grown_below hb))
theorem VJ2.set {k' u':Value} (h:VJ2 C ao n cap w R V S d l k0 u0 td l2 l4 l5 l6 l7 false x2 x4 x5 x6 x7 W) (e5:x5=.tuple #[.agg #[.int .i64 4,.bool false,.string td,k',u'],.int .i64 0])
    (s1:W'.heap[V]? =some (.cells #[.int .i64 4,.bool false,.string td,k',u'] 24 (0,0))) (s2:∀b,b≠V→W'.heap[b]? =W.heap[b]?) (s3:∀{B:Nat} {w0:World},Below B w0 W→B≤V→Below B w0 W'):
    VJ2 C ao n cap w R V S d l k0 u0 td l2 l4 l5 l6 l7 true x2 x4 x5 x6 x7 W':=by
  have hbw:Below V W W':=s3 (Below.refl V W) (Nat.le_refl _)
  have hg:w.grownBy W' (some C):=⟨hbw.os.trans h.gr.1.os,hbw.tape.trans h.gr.1.tape,hbw.output.trans h.gr.1.output,Nat.le_trans h.gr.1.size hbw.size,fun k hk hne=>(s2 k (by have:=h.gr.2;omega)).trans (h.gr.1.block k hk hne)⟩
  have hav:∀{l1:Arx.L} {k u:Value},AV S W d l1 k u→AV S W' d l1 k u:=fun hv=>hv.blocks fun g _ ⟨cs,fr,hh⟩=>s2 g fun e=>by
    subst e
    have:=(h.vb rfl).symm.trans hh
    injection Option.some.inj this with _ e2 _
    exact absurd e2 (by decide)
  have hgV:W.grownBy W' (some V):=⟨hbw.os,hbw.tape,hbw.output,hbw.size,fun k _ hne=>s2 k fun e=>hne (by rw[e])⟩
  exact { ch:=h.ch.grown hgV (fun k e=>by have:=Option.some.inj e;have:=h.gr.2;omega),gr:=⟨hg,h.gr.2⟩,rb:=(s2 R (by have:=h.gr.2;omega)).trans h.rb,av:=hav h.av,vb:=fun e=>absurd e (by decide),vc:=fun _=>⟨k',u',e5,s1⟩,s2:=h.s2,s4:=h.s4,s5:=fun e=>let ⟨z1,z2,k1,u1,q1,q2⟩:=h.s5 e;⟨z1,z2,k1,u1,q1,hav q2⟩,s6:=h.s6,s7:=h.s7 }
end
section
theorem genArr (C:Nat) (ao:Option Addr) (n cap:Nat) (w:World) (h:Ch C ao n cap w):
    Calls Tryz.prog 16 #[.pointer (some ⟨C,0,none⟩),.int .i64 4] w fun e w'=>∃d l k u,e=.returned (valV 4 false (TI d) k u)∧AV w.heap.size w' d l k u∧l.length≤3∧Ch C ao n cap w'∧w.grownBy w' (some C):=by
  have HC0:=Lib.hid h
  have hA:=alloc_far' w (.cells #[.int .i64 0,.bool false,.string ⟨#[]⟩,.slice none 0 0,.slice none 0 0] 24)
  have hx:=heap_alloc_new w (.cells #[.int .i64 0,.bool false,.string ⟨#[]⟩,.slice none 0 0,.slice none 0 0] 24)
  have HC1:=Lib.hid (h.call hA)
  have HR1:=Lib.hid hx
  have HG1:=Lib.hid (grown_more (r:=some C) (grown_below hA))
  have HCS:Hid (C<w.heap.size):=Lib.hid h.lt
  clear h hA hx
  unfold valV
  go_enter Tryz.func16,Tryz.ntmps16
  go_upto_region 5 with fail
  generalize hw1:w.alloc _=w1 at *
  have HIN:=Lib.hid (integer_any C ao n cap w1 HC1.out)
  clear hw1 HC1
  go_wp2_with fail
  refine HIN.out.mono ?_
  rintro e w2 ⟨d,hd,rfl,hch,hg⟩
  rw[show TX (d:Rat)=TI d from rfl]
  obtain ⟨td,htd⟩:∃t,TI d=t:=⟨_,rfl⟩
  have HTD:=Lib.hid htd
  rw[htd]
  have hsd:Sm d:=Nat.lt_trans hd (by decide)
  have ha:=alloc_far' w2 (.cells #[.int .i64 4,.bool false,.string td,.slice none 0 0,.slice none 0 0] 24)
  have hv:=heap_alloc_new w2 (.cells #[.int .i64 4,.bool false,.string td,.slice none 0 0,.slice none 0 0] 24)
  have HC2:=Lib.hid (hch.call ha)
  have HG2:=Lib.hid (grown_call (grown_trans HG1.out hg) ha)
  have HR2:=Lib.hid ((ha.block _ (Nat.lt_of_lt_of_le (lt_of_heap HR1.out) hg.size)).trans ((hg.block _ (lt_of_heap HR1.out) (fun e=>by have:=Option.some.inj e;have:=HCS.out;omega)).trans HR1.out))
  have HV2:=Lib.hid hv
  have HLT:Hid (w.heap.size<w2.heap.size):=Lib.hid (Nat.lt_of_lt_of_le (lt_of_heap HR1.out) hg.size)
  have HSD:=Lib.hid hsd
  clear hd hch hg ha hv htd hsd HIN HC0 HG1 HR1
  go_upto_region 6 with fail
  generalize hV:w2.heap.size=V at *
  generalize hw3:w2.alloc _=w3 at *
  clear hV hw3
  have HNX:=Lib.hid (next_any C ao n cap w3 4 (by decide) (by decide) HC2.out)
  go_wp2_with fail
  refine HNX.out.mono ?_
  rintro e w4 ⟨r,hr,rfl,hch,hg,hsz⟩
  have HC4:=Lib.hid hch
  have HG4:=Lib.hid (grown_trans HG2.out hg)
  have HR4:=Lib.hid ((hg.block _ (lt_of_heap HR2.out) (fun e=>by have:=Option.some.inj e;have:=HCS.out;omega)).trans HR2.out)
  have HV4:=Lib.hid ((hg.block _ (lt_of_heap HV2.out) (fun e=>by have:=Option.some.inj e;have:=HCS.out;have:=HLT.out;omega)).trans HV2.out)
  clear hch hg hsz HC2 HG2 HR2 HV2 HNX
  go_wp2_with fail
  go_loopw [6] (fun v6 wr=>∃(q:Nat) (l:Arx.L) (k u:Value),v6=.int .i64 (q:Nat)∧q+l.length≤3∧wr.heap[V]? =some (.cells #[.int .i64 4,.bool false,.string td,k,u] 24 (0,0))∧wr.heap[w.heap.size]? =some (.cells #[.int .i64 0,.bool false,.string ⟨#[]⟩,.slice none 0 0,.slice none 0 0] 24 (0,0))∧AV w.heap.size wr d l k u∧Ch C ao n cap wr∧w.grownBy wr (some C)) (fun v _=>(intOf v).toNat)
  case atStart=>exact ⟨r,[],_,_,rfl,by simp;omega,HV4.out,HR4.out,av_nil0 _ _ HSD.out,HC4.out,HG4.out⟩
  case round=>
    obtain ⟨q,l,k0,u0,rfl,hql,hvb,hrb,hav,hch,hgr⟩:=hrel
    by_cases hq0:q=0
    · subst hq0
      have z0:=heap_cell hvb 0
      have z1:=heap_cell hvb 1
      have z2:=heap_cell hvb 2
      have z3:=heap_cell hvb 3
      have z4:=heap_cell hvb 4
      have f0:=heap_cell hrb 0
      have f1:=heap_cell hrb 1
      have f2:=heap_cell hrb 2
      have f3:=heap_cell hrb 3
      have f4:=heap_cell hrb 4
      have g0:=heap_fz hrb 0
      have g1:=heap_fz hrb 1
      have g2:=heap_fz hrb 2
      have g3:=heap_fz hrb 3
      have g4:=heap_fz hrb 4
      obtain ⟨a1,c1,a2,c2,rfl,rfl⟩:=hav.form
      obtain ⟨m,hm⟩:∃m,l.length=m:=⟨_,rfl⟩
      have HM:=Lib.hid hm
      simp only[hm] at hav hvb z3 z4
      have HFIN:=Lib.hid (set5 hrb (.int .i64 4) (.bool false) (.string td) (.slice a1 m c1) (.slice a2 m c2))
      have HAV:=Lib.hid hav
      have HCH:=Lib.hid hch
      have HGR:=Lib.hid hgr
      have HRB:=Lib.hid hrb
      have HQL:Hid (m≤3):=Lib.hid (by omega)
      clear hm hql hvb hrb hav hch hgr
      go_wp2
      obtain ⟨s1,s2,s3⟩:=HFIN.out
      have hbw:=s3 (Below.refl w.heap.size wr) (Nat.le_refl _)
      refine end_val1 rfl rfl rfl ⟨_,_,_,rfl⟩ ⟨_,_,_,rfl⟩ s1 ⟨d,l,_,_,by rw[HTD.out];rfl,HAV.out.blocks fun g _ ⟨cs,fr,hh⟩=>s2 g fun e=>?_,by rw[HM.out];exact HQL.out,HCH.out.grown (r:=some w.heap.size) ⟨hbw.os,hbw.tape,hbw.output,hbw.size,fun k _ hne=>s2 k fun e=>hne (by rw[e])⟩ (fun k e=>by have:=Option.some.inj e;have:=HCS.out;omega),⟨hbw.os.trans HGR.out.os,hbw.tape.trans HGR.out.tape,hbw.output.trans HGR.out.output,Nat.le_trans HGR.out.size hbw.size,fun k hk hne=>(s2 k (by omega)).trans (HGR.out.block k hk hne)⟩⟩
      subst e
      have:=HRB.out.symm.trans hh
      injection Option.some.inj this with _ e2 _
      exact absurd e2 (by decide)
    · have hq1:(0:Int)<(q:Int):=by omega
      have HLL:Hid (l.length≤3):=Lib.hid (by omega)
      have HQ:Hid (q+l.length≤3∧0<q):=Lib.hid ⟨hql,by omega⟩
      obtain ⟨a1,c1,a2,c2,rfl,rfl⟩:=hav.form
      obtain ⟨m,hm⟩:∃m,l.length=m:=⟨_,rfl⟩
      have HM:=Lib.hid hm
      simp only[hm] at hav hvb
      have HI:=Lib.hid fun (x2 x4 x5 x6 x7:Value)=>(show VJ2 C ao n cap w w.heap.size V w.heap.size d l (.slice a1 m c1) (.slice a2 m c2) td false false false false false false x2 x4 x5 x6 x7 wr from ⟨hch,⟨hgr,HCS.out,Nat.le_refl _,Nat.le_of_lt HLT.out,(by have:=HLT.out;omega),rfl⟩,hrb,hav,fun _=>hvb,(fun e=>by cases e),(fun e=>by cases e),(fun e=>by cases e),(fun e=>by cases e),(fun e=>by cases e),(fun e=>by cases e)⟩)
      clear hm hql hvb hrb hav hch hgr
      have hw1:IntKind.i64.wrap ((q:Int)-1)=((q-1:Nat):Int):=by have:=HQ.out;rw[IntKind.wrap_i64];omega
      go_upto_region 9 with fail
      refine inv_region [[],[],[1],[],[1,2,3],[0,1,2,3,4],[0,1,2,3,4,5],[0,1,2,3,4,5,6],[0,1,2,3,4,5,6],[0,1,2,3,4,5,6,7]] (fun y L W=>VJ2 C ao n cap w w.heap.size V w.heap.size d l (.slice a1 m c1) (.slice a2 m c2) td (L 2) (L 4) (L 5) (L 6) (L 7) (L 9) (y 2) (y 4) (y 5) (y 6) (y 7) W) ?_
      apply j_con
      · intro y;go_simp;done
      · intro y L W R hJ h1 h2 h3 hR
        have hbx:=hJ.vb (h3 9 (show (0:Nat)∈([0,1,2,3,4,5,6,7]:List Nat) by decide))
        have z0:=heap_cell hbx 0
        have z1:=heap_cell hbx 1
        have z2:=heap_cell hbx 2
        have z3:=heap_cell hbx 3
        have z4:=heap_cell hbx 4
        clear hbx
        unfold addAt
        go_simp
        simp only[addUpon]
        exact hR _ hJ
      simp only[Act.put,List.setIfInBounds_toArray,List.set_cons_zero,List.set_cons_succ]
      apply j_con
      · intro y;go_simp;done
      · intro y L W R hJ h1 h2 h3 hR
        unfold addAt
        go_simp
        simp only[addUpon]
        exact hR _ hJ
      simp only[Act.put,List.setIfInBounds_toArray,List.set_cons_zero,List.set_cons_succ]
      apply j_any
      · intro y;go_simp;done
      · intro y L W R hJ h1 h2 h3 hR
        have hc:=integer_any C ao n cap W hJ.ch
        have HJ:=Lib.hid hJ
        clear hJ
        unfold addAt
        go_simp
        simp only[addUpon]
        refine hc.mono ?_
        rintro e w' ⟨z,hz,rfl,hch,hg⟩
        have hsz:Sm z:=Nat.lt_trans hz (by decide)
        have hf:=HJ.out.int hch hg
        exact ⟨_,rfl,hR _ _ ⟨hf.ch,hf.gr,hf.rb,hf.av,hf.vb,hf.vc,fun _=>⟨z,hsz,rfl⟩,hf.s4,hf.s5,hf.s6,hf.s7⟩⟩
      simp only[Act.put,List.setIfInBounds_toArray,List.set_cons_zero,List.set_cons_succ,List.length_cons,List.length_nil,Nat.zero_add,Nat.reduceAdd]
      apply j_con
      · intro y;go_simp;done
      · intro y L W R hJ h1 h2 h3 hR
        unfold addAt
        go_simp
        simp only[addUpon]
        exact hR _ hJ
      simp only[Act.put,List.setIfInBounds_toArray,List.set_cons_zero,List.set_cons_succ]
      apply j_any
      · intro y;go_simp;done
      · intro y L W R hJ h1 h2 h3 hR
        have hc:=integer_any C ao n cap W hJ.ch
        have HJ:=Lib.hid hJ
        clear hJ
        unfold addAt
        go_simp
        simp only[addUpon]
        refine hc.mono ?_
        rintro e w' ⟨z,hz,rfl,hch,hg⟩
        have hsz:Sm z:=Nat.lt_trans hz (by decide)
        have hf:=HJ.out.int hch hg
        exact ⟨_,rfl,hR _ _ ⟨hf.ch,hf.gr,hf.rb,hf.av,hf.vb,hf.vc,hf.s2,fun _=>⟨z,hsz,rfl⟩,hf.s5,hf.s6,hf.s7⟩⟩
      simp only[Act.put,List.setIfInBounds_toArray,List.set_cons_zero,List.set_cons_succ,List.length_cons,List.length_nil,Nat.zero_add,Nat.reduceAdd]
      apply j_any
      · intro y;go_simp;done
      · intro y L W R hJ h1 h2 h3 hR
        obtain ⟨z1,hz1,q1⟩:=hJ.s2 (h1 2 (show (2:Nat)∈([0,1,2,3,4]:List Nat) by decide))
        obtain ⟨z2,hz2,q2⟩:=hJ.s4 (h1 4 (show (4:Nat)∈([0,1,2,3,4]:List Nat) by decide))
        have q9:L 9=false:=h3 9 (show (5:Nat)∈([0,1,2,3,4,5,6,7]:List Nat) by decide)
        have hc:=refStore_av W hJ.av.rd hz1 hz2 (by have:=HLL.out;omega)
        rw[HTD.out] at hc
        unfold valV at hc
        have HJ:=Lib.hid hJ
        clear hJ
        rw[q1,q2]
        unfold addAt
        go_simp
        simp only[addUpon]
        refine hc.mono ?_
        rintro e w' ⟨k',u',rfl,hav,hb⟩
        have hf:=HJ.out.far hb
        exact ⟨_,rfl,hR _ _ ⟨hf.ch,hf.gr,hf.rb,hf.av,hf.vb,fun e=>absurd (q9.symm.trans (show L 9=true from e)) (by decide),hf.s2,hf.s4,fun _=>⟨z1,z2,k',u',rfl,hav.down HJ.out.sz⟩,fun e=>absurd ((h3 6 (show (5:Nat)∈([0,1,2,3,4,5]:List Nat) by decide)).symm.trans (show L 6=true from e)) (by decide),fun e=>absurd ((h3 7 (show (5:Nat)∈([0,1,2,3,4,5,6]:List Nat) by decide)).symm.trans (show L 7=true from e)) (by decide)⟩⟩
      simp only[Act.put,List.setIfInBounds_toArray,List.set_cons_zero,List.set_cons_succ,List.length_cons,List.length_nil,Nat.zero_add,Nat.reduceAdd]
      apply j_any
      · intro y;go_simp;done
      · intro y L W R hJ h1 h2 h3 hR
        unfold addAt
        go_simp
        simp only[addUpon]
        exact hR _ _ ⟨hJ.ch,hJ.gr,hJ.rb,hJ.av,hJ.vb,hJ.vc,hJ.s2,hJ.s4,hJ.s5,fun _=>rfl,hJ.s7⟩
      simp only[Act.put,List.setIfInBounds_toArray,List.set_cons_zero,List.set_cons_succ,List.length_cons,List.length_nil,Nat.zero_add,Nat.reduceAdd]
      apply j_any
      · intro y;go_simp;done
      · intro y L W R hJ h1 h2 h3 hR
        obtain ⟨z1,z2,k',u',q5,-⟩:=hJ.s5 (h1 5 (show (5:Nat)∈([0,1,2,3,4,5,6]:List Nat) by decide))
        have q6:y 6=y 5:=hJ.s6 (h1 6 (show (6:Nat)∈([0,1,2,3,4,5,6]:List Nat) by decide))
        rw[q6,q5]
        unfold addAt
        go_simp
        simp only[addUpon]
        exact hR _ _ ⟨hJ.ch,hJ.gr,hJ.rb,hJ.av,hJ.vb,hJ.vc,hJ.s2,hJ.s4,hJ.s5,hJ.s6,fun _=>q5⟩
      simp only[Act.put,List.setIfInBounds_toArray,List.set_cons_zero,List.set_cons_succ,List.length_cons,List.length_nil,Nat.zero_add,Nat.reduceAdd]
      apply j_any
      · intro y;go_simp;done
      · intro y L W R hJ h1 h2 h3 hR
        obtain ⟨z1,z2,k',u',q5,-⟩:=hJ.s5 (h1 5 (show (5:Nat)∈([0,1,2,3,4,5,6]:List Nat) by decide))
        have q6:y 6=y 5:=hJ.s6 (h1 6 (show (6:Nat)∈([0,1,2,3,4,5,6]:List Nat) by decide))
        rw[q6,q5]
        unfold addAt
        go_simp
        simp only[addUpon]
        exact hR _ _ hJ
      simp only[Act.put,List.setIfInBounds_toArray,List.set_cons_zero,List.set_cons_succ,List.length_cons,List.length_nil,Nat.zero_add,Nat.reduceAdd]
      apply j_any
      · intro y;go_simp;done
      · intro y L W R hJ h1 h2 h3 hR
        obtain ⟨z1,z2,k',u',q5,hav⟩:=hJ.s5 (h1 5 (show (5:Nat)∈([0,1,2,3,4,5,6,7]:List Nat) by decide))
        have q7:=(hJ.s7 (h1 7 (show (7:Nat)∈([0,1,2,3,4,5,6,7]:List Nat) by decide))).symm.trans q5
        have q8:y 7=.agg #[.int .i64 4,.bool false,.string td,k',u']:=by simpa using q7
        obtain ⟨b1,e1,b2,e2,rfl,rfl⟩:=hav.form
        have hbx:=hJ.vb h2
        have cz0:=heap_cell hbx 0
        have cf0:=heap_fz hbx 0
        have cz1:=heap_cell hbx 1
        have cf1:=heap_fz hbx 1
        have cz2:=heap_cell hbx 2
        have cf2:=heap_fz hbx 2
        have cz3:=heap_cell hbx 3
        have cf3:=heap_fz hbx 3
        have cz4:=heap_cell hbx 4
        have cf4:=heap_fz hbx 4
        obtain ⟨s1,s2,s3⟩:=set5 hbx (.int .i64 4) (.bool false) (.string td) (.slice b1 (Arx.stA d l z1 z2).length e1) (.slice b2 (Arx.stA d l z1 z2).length e2)
        have q9:L 9=false:=h2
        have hJ':=hJ
        rw[q9] at hJ'
        have HJ:=Lib.hid (hJ'.set q5 s1 s2 s3)
        clear hJ hJ' hbx s1 s2 s3 hav
        rw[q8]
        unfold addAt
        go_simp
        simp only[addUpon]
        exact hR _ _ HJ.out
      simp only[Act.put]
      refine j_nil (by kernel_rfl) (by kernel_rfl) ((HI.out _ _ _ _ _).far (Below.refl _ _).drew) ?_
      intro y L W hJ hL
      obtain ⟨k1,u1,q5,hvb⟩:=hJ.vc (hL 9 (show 9<10 by decide))
      obtain ⟨z1,z2,k2,u2,q6,hav⟩:=hJ.s5 (hL 5 (show 5<10 by decide))
      have q7:=q5.symm.trans q6
      have q8:k1=k2∧u1=u2:=by simpa using q7
      obtain ⟨rfl,rfl⟩:=q8
      have HVB:=Lib.hid hvb
      have HAV:=Lib.hid hav
      have HCH:=Lib.hid hJ.ch
      have HGR:=Lib.hid hJ.gr.1
      have HRB:=Lib.hid hJ.rb
      clear hJ hL hvb hav q5 q6 q7
      go_wp2_with fail
      go_roundw
      case rel=>exact ⟨q-1,Arx.stA d l z1 z2,k1,u1,rfl,by have:=Arx.st_len d l z1 z2;have:=HQ.out;omega,HVB.out,HRB.out,HAV.out,HCH.out,HGR.out⟩
      case measure=>have:=HQ.out;simp[intOf];omega
end
end Go.Proofs.YtpkfnnkbfphfbaaGreatDoor.Se
/- ValueStoreLaws' walk. -/
namespace Go.Proofs.YtpkfnnkbfphfbaaGreatDoor.Se
open Go.RowKit Nmx

def BXA (S B:Nat) (d:Int) (td:ByteArray) (l:Arx.L) (k u:Value) (W:World):Prop:=W.heap[B]? =some (.cells #[.int .i64 4,.bool false,.string td,k,u] 24 (0,0))∧AV S W d l k u
theorem BXA.far {S B:Nat} {d:Int} {td:ByteArray} {l:Arx.L} {k u:Value} {W W':World} (h:BXA S B d td l k u W) (hb:Below W.heap.size W W'):BXA S B d td l k u W':=⟨(hb.block _ (lt_of_heap h.1)).trans h.1,h.2.far hb⟩
theorem BXA.cells {S B:Nat} {d:Int} {td:ByteArray} {l:Arx.L} {k u:Value} {W:World} (h:BXA S B d td l k u W):W.cell? ⟨B,0,none⟩=some (.int .i64 4)∧W.cell? ⟨B,1,none⟩=some (.bool false)∧W.cell? ⟨B,2,none⟩=some (.string td)∧W.cell? ⟨B,3,none⟩=some k∧W.cell? ⟨B,4,none⟩=some u:=
  ⟨heap_cell h.1 0,heap_cell h.1 1,heap_cell h.1 2,heap_cell h.1 3,heap_cell h.1 4⟩
theorem BXA.ch {S B C:Nat} {d:Int} {td:ByteArray} {l:Arx.L} {k u:Value} {W W':World} (h:BXA S B d td l k u W) (hC:C<S) (hB:C<B) (hg:W.grownBy W' (some C)):BXA S B d td l k u W':=
  ⟨(hg.block _ (lt_of_heap h.1) (fun e=>by have:=Option.some.inj e;omega)).trans h.1,h.2.ch hC hg⟩
theorem ch_newV {w:World} {ao:Option Addr} {len cap:Nat} (h:ArgI w ao len cap):Ch w.heap.size ao (min len 400) cap (w.alloc (.cells #[.slice ao (min len 400) cap,.int .i64 0] 60)):=by
  refine ⟨⟨0,Nat.zero_le _,heap_alloc_new w _⟩,by omega,fun hn=>?_⟩
  obtain ⟨b,off,e,hb,hx⟩:=h.rd (by have:=h.le;omega)
  refine ⟨b,off,e,hb,fun t ht=>?_⟩
  obtain ⟨x,hx⟩:=hx t (by omega)
  exact ⟨x,(World.cell?_alloc_past _ _ _ hb).trans hx⟩
theorem ArgI.belowV {w w':World} {ao:Option Addr} {len cap:Nat} (h:ArgI w ao len cap) (hb:Below w.heap.size w w'):ArgI w' ao len cap:=
  ⟨h.le,h.most,fun ha=>let ⟨b,off,e,hl,hx⟩:=h.rd ha;⟨b,off,e,Nat.lt_of_lt_of_le hl hb.size,fun t ht=>let ⟨x,hx⟩:=hx t ht;⟨x,(hb.cell (p:=⟨b,off+t,.none⟩) hl).trans hx⟩⟩⟩
end Go.Proofs.YtpkfnnkbfphfbaaGreatDoor.Se

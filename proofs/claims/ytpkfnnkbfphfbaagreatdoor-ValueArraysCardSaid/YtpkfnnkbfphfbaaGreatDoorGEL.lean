/- The evaluator at a number's node. -/
import Derived.Test.YtpkfnnkbfphfbaaGreatDoorGEK
import Derived.Test.YtpkfnnkbfphfbaaGreatDoorGEG
set_option maxRecDepth 100000
set_option maxHeartbeats 40000000
namespace Go.Proofs.YtpkfnnkbfphfbaaGreatDoor.Se
open Go.RowKit Nmx

theorem EV.drew {E g c:Nat} {ts:List Nd} {p:Int} {m1 m2:Value} {W:World} (h:EV E g c ts p m1 m2 W):EV E g c ts p m1 m2 W.drew:=⟨h.ev,h.nd,h.gl,h.ne⟩
structure NJ (E g c:Nat) (ts:List Nd) (p:Int) (m1 m2:Value) (R:Nat) (nd:Array Value) (w:World) (p10 p11:Bool) (v10:Value) (W:World):Prop where
  ev:EV E g c ts p m1 m2 W
  rb:W.heap[R]? =some (.cells (cL 0 0).toArray 95 (0,0))
  bel:Below R w W
  b10:p10=true→∃N,v10=.pointer (some ⟨N,0,none⟩)∧R<N∧if p11=true then W.heap[N]? =some (.cells nd 57 (0,0)) else W.heap[N]? =some (.cells #[.int .i64 0,.int .i64 0,.string ⟨#[]⟩,.string ⟨#[]⟩,.int .i64 0] 57 (0,0))
theorem NJ.far {E g c:Nat} {ts:List Nd} {p:Int} {m1 m2:Value} {R:Nat} {nd:Array Value} {w:World} {p10 p11:Bool} {v10:Value} {W W':World} (h:NJ E g c ts p m1 m2 R nd w p10 p11 v10 W) (hb:Below W.heap.size W W'):NJ E g c ts p m1 m2 R nd w p10 p11 v10 W':=by
  refine ⟨h.ev.far hb,(hb.block _ (lt_of_heap h.rb)).trans h.rb,h.bel.trans (hb.mono (Nat.le_of_lt (lt_of_heap h.rb))),fun e=>?_⟩
  obtain ⟨N,h1,h2,h3⟩:=h.b10 e
  refine ⟨N,h1,h2,?_⟩
  split at h3
  · rw[if_pos (by assumption)];exact (hb.block _ (lt_of_heap h3)).trans h3
  · rw[if_neg (by assumption)];exact (hb.block _ (lt_of_heap h3)).trans h3
theorem infoCell:(Tryz.prog.info? 95).map (fun i=>(i.zero,i.size,i.bytes))=some (some (cC 0 0),13,176):=by kernel_rfl
theorem run_cells0 (W:World):(Instr.makeSlice 134 (.int .i64 0) (.int .i64 0)).run Tryz.prog W=.ok (.slice (some ⟨W.heap.size,0,none⟩) 0 0) (W.alloc (.cells #[] 95)):=by
  obtain ⟨i0,hi,hz0,hz1,hz2⟩:=info_parts infoCell
  have hr:=run_make (P:=Tryz.prog) W 134 95 i0 _ Tryz.underlying134 hi hz0 .i64 .i64 0 0 (by omega) (by omega) (by rw[hz2];omega) (by omega)
  have e:madeCells (cC 0 0).cells (0*13)=#[]:=by kernel_rfl
  rw[hz1] at hr
  simp only[Int.toNat_zero] at hr
  rw[e] at hr
  exact hr
theorem run_cells1 (W:World):(Instr.makeSlice 134 (.int .i64 1) (.int .i64 1)).run Tryz.prog W=.ok (.slice (some ⟨W.heap.size,0,none⟩) 1 1) (W.alloc (.cells (cL 0 0).toArray 95)):=by
  obtain ⟨i0,hi,hz0,hz1,hz2⟩:=info_parts infoCell
  have hr:=run_make (P:=Tryz.prog) W 134 95 i0 _ Tryz.underlying134 hi hz0 .i64 .i64 1 1 (by omega) (by omega) (by rw[hz2];omega) (by omega)
  have e:madeCells (cC 0 0).cells (1*13)=(cL 0 0).toArray:=by kernel_rfl
  rw[hz1] at hr
  simp only[Int.toNat_one] at hr
  rw[e] at hr
  exact hr
theorem grown_setN {w W:World} {C:Nat} (h:w.grownBy W (some C)) {q:Nat} (hq:w.heap.size≤q) (j:Nat) (x:Value):w.grownBy (W.setCell ⟨q,j,none⟩ x) (some C):=
  ⟨h.os,h.tape,h.output,by simpa [World.setCell] using h.size,fun k hk hne=>(Below.heap_setCell _ _ _ _ (by show k≠q;omega)).trans (h.block k hk hne)⟩
theorem grown_setsN {w W:World} {C:Nat} {q:Nat} (hq:w.heap.size≤q) (vs:List Value) (o:Nat) (h:w.grownBy W (some C)):w.grownBy (W.setCells q o vs) (some C):=by
  induction vs generalizing o W with
  | nil=>exact h
  | cons v r ih=>exact ih (o+1) (grown_setN h hq o v)
theorem setsA_all (cs:Array Value) (L:List Value) (h:L.length=cs.size):setsA cs 0 L=L.toArray:=by
  have:=setsA_list L cs 0 (by omega)
  rw[List.take_zero,List.nil_append,Nat.zero_add,List.drop_of_length_le (by rw[Array.length_toList];omega),List.append_nil] at this
  exact Array.ext' (by rw[this])
structure NV (E g c:Nat) (ts:List Nd) (p:Int) (m1 m2:Value) (R N:Nat) (nd:Array Value) (z:Int) (w:World) (p6:Bool) (W:World):Prop where
  ev:EV E g c ts p m1 m2 W
  nb:W.heap[N]? =some (.cells nd 57 (0,0))
  gr:w.grownBy W (some E)
  rb:W.heap[R]? =some (.cells (cL (if p6=true then 2 else 0) (if p6=true then z else 0)).toArray 95 (0,0))
theorem NV.far {E g c:Nat} {ts:List Nd} {p:Int} {m1 m2:Value} {R N:Nat} {nd:Array Value} {z:Int} {w:World} {p6:Bool} {W W':World} (h:NV E g c ts p m1 m2 R N nd z w p6 W) (hb:Below W.heap.size W W'):NV E g c ts p m1 m2 R N nd z w p6 W':=
  ⟨h.ev.far hb,(hb.block _ (lt_of_heap h.nb)).trans h.nb,grown_call h.gr hb,(hb.block _ (lt_of_heap h.rb)).trans h.rb⟩
theorem nd_cells {w:World} {g i:Nat} {ts:List Nd} {op so ki:Int} {nm nu:ByteArray} (hi:ts[i]? =some ⟨op,so,nm,nu,ki⟩) (h:NodesAt w g ts):w.cell? ⟨g,i*5,none⟩=some (.int .i64 op)∧w.cell? ⟨g,i*5+1,none⟩=some (.int .i64 so)∧w.cell? ⟨g,i*5+2,none⟩=some (.string nm)∧w.cell? ⟨g,i*5+3,none⟩=some (.string nu)∧w.cell? ⟨g,i*5+4,none⟩=some (.int .i64 ki):=
  ⟨h i _ hi 0 (by omega),h i _ hi 1 (by omega),h i _ hi 2 (by omega),h i _ hi 3 (by omega),h i _ hi 4 (by omega)⟩
section
theorem node_leaf {E g c:Nat} {z:Int} {m1 m2:Value} {ts:List Nd} {i:Nat} (w:World) (hEn:∀W,w.grownBy W (some E)→Env W) (hz:Small z) (hi:ts[i]? =some ⟨3,2,⟨#[]⟩,TI z,0⟩) (hil:ts.length≤1000) (h:EV E g c ts i m1 m2 w):
    Calls Tryz.prog 60 #[.pointer (some ⟨E,0,none⟩)] w fun e w'=>e=.returned (cC 2 z)∧EV E g c ts ((i:Int)+1) m1 m2 w'∧w.grownBy w' (some E):=by
  have hlt:=(List.getElem?_eq_some_iff.1 hi).1
  have hA:=alloc_far' w (.cells (cL 0 0).toArray 95)
  have HEV:=Lib.hid (h.far hA)
  have HRB:=Lib.hid (heap_alloc_new w (.cells (cL 0 0).toArray 95))
  have HBL:=Lib.hid hA
  have HER:Hid (E<w.heap.size):=Lib.hid (lt_of_heap h.ev)
  have HGR:Hid (g<w.heap.size):=Lib.hid h.gl
  have HTN:=Lib.hid fun (W:World) (hW:NodesAt W g ts)=>nd_cells hi hW
  have HEN:=Lib.hid hEn
  obtain ⟨tz,htz⟩:∃t,TI z=t:=⟨_,rfl⟩
  rw[htz] at HTN
  have HMU:=Lib.hid fun (W:World) (hW:Env W)=>mustC hz W hW
  rw[htz] at HMU
  clear hA h hEn htz
  obtain ⟨n,hn⟩:∃n,ts.length=n:=⟨_,rfl⟩
  rw[hn] at hlt hil
  have hlt':(i:Int)<(n:Int):=by omega
  have hi0:(0:Int)≤(i:Int):=by omega
  unfold cL at HRB HEV HBL
  go_enter Tryz.func60,Tryz.ntmps60
  go_upto_region 1 with fail
  generalize hw1:World.alloc _ _=w1 at *
  generalize hR:w.heap.size=rI at *
  have HRW:=Lib.hid hR
  refine inv_region [[],[0],[0,1],[0,1,2],[],[4],[4,5],[4,5,6],[0,1,2,3,4,5,6,7],[0,1,2,3,4,5,6,7,8],[],[0,1,2,3,4,5,6,7,8,9,10]] (fun x L W=>NJ E g c ts i m1 m2 rI #[.int .i64 3,.int .i64 2,.string ⟨#[]⟩,.string tz,.int .i64 0] w (L 10) (L 11) (x 10) W) ?_
  iterate 8
    apply j_con
    · intro x;go_simp;done
    · intro x L W R hJ h1 h2 h3 hR
      have z0:=heap_cell hJ.ev.ev 0
      have z1:=heap_cell hJ.ev.ev 1
      unfold addAt
      go_simp
      simp only[addUpon]
      exact hR _ hJ
    simp only[Act.put,List.setIfInBounds_toArray,List.set_cons_zero,List.set_cons_succ]
  apply j_con
  · intro x;go_simp;done
  · intro x L W R hJ h1 h2 h3 hR
    skip
    unfold addAt
    go_simp
    simp only[addUpon]
    exact hR _ hJ
  simp only[Act.put,List.setIfInBounds_toArray,List.set_cons_zero,List.set_cons_succ]
  apply j_con
  · intro x;go_simp;done
  · intro x L W R hJ h1 h2 h3 hR
    obtain ⟨q0,q1,q2,q3,q4⟩:=HTN.out W hJ.ev.nd
    unfold addAt
    go_simp
    simp only[addUpon]
    exact hR _ hJ
  simp only[Act.put,List.setIfInBounds_toArray,List.set_cons_zero,List.set_cons_succ]
  apply j_any
  · intro x;go_simp;done
  · intro x L W R hJ h1 h2 h3 hR
    have hj:=hJ.far (alloc_far' W (.cells #[.int .i64 0,.int .i64 0,.string ⟨#[]⟩,.string ⟨#[]⟩,.int .i64 0] 57))
    have HJ:=Lib.hid hj
    have HR0:=Lib.hid (lt_of_heap hJ.rb)
    clear hJ hj
    unfold addAt
    go_simp
    simp only[addUpon]
    have h11:L 11=false:=h3 11 (show (10:Nat)∈([0,1,2,3,4,5,6,7,8,9,10]:List Nat) by decide)
    exact hR _ _ ⟨HJ.out.ev,HJ.out.rb,HJ.out.bel,fun _=>⟨_,rfl,HR0.out,by show (if L 11=true then _ else _);rw[h11];exact heap_alloc_new W _⟩⟩
  simp only[Act.put,List.setIfInBounds_toArray,List.set_cons_zero,List.set_cons_succ,List.length_cons,List.length_nil,Nat.zero_add,Nat.reduceAdd]
  apply j_any
  · intro x;go_simp;done
  · intro x L W R hJ h1 h2 h3 hR
    have h11:L 11=false:=h2
    obtain ⟨N,q1,q2,q3⟩:=hJ.b10 (h1 10 (show (10:Nat)∈([0,1,2,3,4,5,6,7,8,9,10]:List Nat) by decide))
    rw[h11,if_neg Bool.false_ne_true] at q3
    have f0:=heap_cell q3 0
    have g0:=heap_fz q3 0
    have f1:=heap_cell q3 1
    have g1:=heap_fz q3 1
    have f2:=heap_cell q3 2
    have g2:=heap_fz q3 2
    have f3:=heap_cell q3 3
    have g3:=heap_fz q3 3
    have f4:=heap_cell q3 4
    have g4:=heap_fz q3 4
    have HJ:=Lib.hid hJ
    have HQ:=Lib.hid q3
    clear hJ q3
    rw[q1]
    unfold addAt
    go_simp
    simp only[addUpon]
    obtain ⟨s1,s2,s3⟩:=set5 HQ.out (.int .i64 3) (.int .i64 2) (.string ⟨#[]⟩) (.string tz) (.int .i64 0)
    exact hR _ _ ⟨HJ.out.ev.blocks (s2 E (by have:=HER.out;omega)) (s2 g (by have:=HGR.out;omega)),(s2 rI (by omega)).trans HJ.out.rb,s3 HJ.out.bel (by omega),fun _=>⟨N,q1,q2,s1⟩⟩
  simp only[Act.put]
  refine j_nil (by kernel_rfl) (by kernel_rfl) ⟨HEV.out.drew,HRB.out,HBL.out.drew,(fun e=>by cases e)⟩ ?_
  intro x L W hJ hL
  have l10:L 10=true:=hL 10 (show 10<12 by decide)
  have l11:L 11=true:=hL 11 (show 11<12 by decide)
  rw[l10,l11] at hJ
  obtain ⟨N,q1,q2,q3⟩:=hJ.b10 rfl
  rw[if_pos rfl] at q3
  have hev:=hJ.ev
  have hrb:=hJ.rb
  have hbl:=hJ.bel
  rw[q1]
  have HEV2:=Lib.hid hev
  have HRB2:=Lib.hid hrb
  have HBL2:=Lib.hid hbl
  have HN2:=Lib.hid q3
  have HNR:Hid (rI<N):=Lib.hid q2
  have e1:=heap_cell hev.ev 1
  have e1z:=heap_fz hev.ev 1
  clear hJ hL l10 l11 hev hrb hbl q1 q3 HEV HRB HBL
  go_upto_region 3 with fail
  have hnE:∀b,b≠E→(W.setCell ⟨E,1,none⟩ (.int .i64 ((i:Int)+1))).heap[b]? =W.heap[b]? :=fun b hb=>Below.heap_setCell _ _ _ _ hb
  have hev:EV E g c ts ((i:Int)+1) m1 m2 (W.setCell ⟨E,1,none⟩ (.int .i64 ((i:Int)+1))):=⟨heap_set HEV2.out.ev 1 _,(fun i' x hx j hj=>(World.cell?_of_block (a:=⟨g,i'*5+j,none⟩) (hnE g HEV2.out.ne.symm)).trans (HEV2.out.nd i' x hx j hj)),by simpa [World.setCell] using HEV2.out.gl,HEV2.out.ne⟩
  have hgr:w.grownBy (W.setCell ⟨E,1,none⟩ (.int .i64 ((i:Int)+1))) (some E):=grown_setCell (grown_more (grown_below (by rw[HRW.out];exact HBL2.out))) 1 _
  have hN:=(hnE N (by have:=HNR.out;have:=HER.out;omega)).trans HN2.out
  have hR:=(hnE rI (by have:=HER.out;omega)).trans HRB2.out
  clear e1 e1z HEV2 HRB2 HBL2 HN2 hnE
  generalize hw3:W.setCell ⟨E,1,none⟩ (.int .i64 ((i:Int)+1))=w3 at *
  have HEV3:=Lib.hid hev
  have HGR3:=Lib.hid hgr
  have HN3:=Lib.hid hN
  have HR3:=Lib.hid hR
  have n4:=heap_cell hN 4
  clear hev hgr hN hR hw3
  have hmk:=run_cells0 w3
  have hal:=alloc_far' w3 (.cells #[] 95)
  have n0:=(hal.cell (p:=⟨N,0,none⟩) (lt_of_heap HN3.out)).trans (heap_cell HN3.out 0)
  have e4:=(hal.cell (p:=⟨E,4,none⟩) (lt_of_heap HEV3.out.ev)).trans (heap_cell HEV3.out.ev 4)
  have HAL:=Lib.hid hal
  clear hal
  go_wp2_with fail
  go_loop [28] (fun v=>v=.int .i64 0) (fun _=>0)
  case atStart=>exact rfl
  case round=>
    subst hrel
    go_wp2_with fail
    refine inv_region [[],[0],[],[2],[2,3],[0,1,2,3,4],[0,1,2,3,4,5]] (fun _ L W=>NV E g c ts ((i:Int)+1) m1 m2 rI N #[.int .i64 3,.int .i64 2,.string ⟨#[]⟩,.string tz,.int .i64 0] z w (L 6) W) ?_
    iterate 4
      apply j_con
      · intro x;go_simp;done
      · intro x L W R hJ h1 h2 h3 hR
        have f1:=heap_cell hJ.nb 1
        have f3:=heap_cell hJ.nb 3
        unfold addAt
        go_simp
        simp only[addUpon]
        exact hR _ hJ
      simp only[Act.put,List.setIfInBounds_toArray,List.set_cons_zero,List.set_cons_succ]
    apply j_con
    · intro x;go_simp;done
    · intro x L W R hJ h1 h2 h3 hR
      skip
      unfold addAt
      go_simp
      simp only[addUpon]
      refine (HMU.out W (HEN.out W hJ.gr)).mono ?_
      rintro e w' ⟨rfl,hb⟩
      exact ⟨_,rfl,hR _ (hJ.far hb)⟩
    simp only[Act.put,List.setIfInBounds_toArray,List.set_cons_zero,List.set_cons_succ]
    apply j_con
    · intro x;go_simp;done
    · intro x L W R hJ h1 h2 h3 hR
      unfold rC
      unfold addAt
      go_simp
      simp only[addUpon]
      exact hR _ hJ
    simp only[Act.put,List.setIfInBounds_toArray,List.set_cons_zero,List.set_cons_succ]
    apply j_any
    · intro x;go_simp;done
    · intro x L W R hJ h1 h2 h3 hR
      have l6:L 6=false:=h2
      have hrb:=hJ.rb
      rw[l6] at hrb
      unfold cL at hrb
      have f0:=heap_cell hrb 0
      have g0:=heap_fz hrb 0
      have f1:=heap_cell hrb 1
      have g1:=heap_fz hrb 1
      have f2:=heap_cell hrb 2
      have g2:=heap_fz hrb 2
      have f3:=heap_cell hrb 3
      have g3:=heap_fz hrb 3
      have f4:=heap_cell hrb 4
      have g4:=heap_fz hrb 4
      have f5:=heap_cell hrb 5
      have g5:=heap_fz hrb 5
      have f6:=heap_cell hrb 6
      have g6:=heap_fz hrb 6
      have f7:=heap_cell hrb 7
      have g7:=heap_fz hrb 7
      have f8:=heap_cell hrb 8
      have g8:=heap_fz hrb 8
      have f9:=heap_cell hrb 9
      have g9:=heap_fz hrb 9
      have f10:=heap_cell hrb 10
      have g10:=heap_fz hrb 10
      have f11:=heap_cell hrb 11
      have g11:=heap_fz hrb 11
      have f12:=heap_cell hrb 12
      have g12:=heap_fz hrb 12
      have HJ:=Lib.hid hJ
      have HRB2:=Lib.hid hrb
      clear hJ hrb
      unfold addAt
      go_simp
      simp only[addUpon]
      have hfin:=heap_sets (cL 2 z) 0 HRB2.out
      rw[setsA_all] at hfin
      rotate_left
      · rfl
      refine hR _ (W.setCells rI 0 (cL 2 z)) ?_
      refine ⟨HJ.out.ev.blocks (heap_sets_ne (by have:=HER.out;omega) _ _ _) (heap_sets_ne (by have:=HGR.out;omega) _ _ _),(heap_sets_ne (by have:=HNR.out;omega) _ _ _).trans HJ.out.nb,grown_setsN (by have:=HRW.out;omega) _ _ HJ.out.gr,?_⟩
      exact hfin
    simp only[Act.put]
    refine j_nil (by kernel_rfl) (by kernel_rfl) ⟨((HEV3.out.far HAL.out).drew),(HAL.out.block _ (lt_of_heap HN3.out)).trans HN3.out,grown_drew (grown_call HGR3.out HAL.out),(HAL.out.block _ (lt_of_heap HR3.out)).trans HR3.out⟩ ?_
    intro x L W' hJ hL
    have l6:L 6=true:=hL 6 (show 6<7 by decide)
    rw[l6] at hJ
    have HJ:=Lib.hid hJ
    clear hJ hL l6
    go_wp2
    exact end_cell (s:=2) (z:=z) rfl rfl rfl HJ.out.rb ⟨rfl,HJ.out.ev,HJ.out.gr⟩
end
end Go.Proofs.YtpkfnnkbfphfbaaGreatDoor.Se

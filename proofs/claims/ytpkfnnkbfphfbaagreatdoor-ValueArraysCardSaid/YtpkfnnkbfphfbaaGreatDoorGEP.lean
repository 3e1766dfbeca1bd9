/- The evaluator at a quotient: the value of a cell, the node, Eval. -/
import Derived.Test.YtpkfnnkbfphfbaaGreatDoorGEM
import Derived.Test.YtpkfnnkbfphfbaaGreatDoorGVL
set_option maxRecDepth 100000
set_option maxHeartbeats 40000000
namespace Go.Proofs.YtpkfnnkbfphfbaaGreatDoor.Se
open Go.RowKit Nmx

theorem run_map0 {P:Program} (t:TypeId) (w:World):(Instr.makeMap t none).run P w=.ok (.map (some w.heap.size)) (w.alloc (.map #[] 0)):=by
  simp[Instr.makeMap,Result.andThen]
structure VJ (z:Int) (tz:ByteArray) (w:World) (p6:Bool) (W:World):Prop where
  cb:W.heap[w.heap.size]? =some (.cells (cL 2 z).toArray 95 (0,0))
  rb:W.heap[w.heap.size+1]? =some (.cells (if p6=true then #[.int .i64 2,.bool false,.string tz,.slice none 0 0,.slice none 0 0] else #[.int .i64 0,.bool false,.string ⟨#[]⟩,.slice none 0 0,.slice none 0 0]) 24 (0,0))
  bel:Below w.heap.size w W
theorem VJ.far {z:Int} {tz:ByteArray} {w:World} {p6:Bool} {W W':World} (h:VJ z tz w p6 W) (hb:Below W.heap.size W W'):VJ z tz w p6 W':=
  ⟨(hb.block _ (lt_of_heap h.cb)).trans h.cb,(hb.block _ (lt_of_heap h.rb)).trans h.rb,h.bel.trans (hb.mono h.bel.size)⟩
section
theorem cell_value {z:Int} (w:World) (hEn:Env w) (hz:Small z):Calls Tryz.prog 61 #[cC 2 z] w fun e w'=>e=.returned (valV 2 false (TI z) noS noS)∧Below w.heap.size w w':=by
  have HST:=Lib.hid fun (W:World) (hW:Below w.heap.size w W)=>stringC hz W (hEn.far hW)
  obtain ⟨tz,htz⟩:∃t,TI z=t:=⟨_,rfl⟩
  rw[htz] at HST
  rw[htz]
  have hA:=alloc_far' w (.cells (cL 2 z).toArray 95)
  have hA2:=alloc_far' (w.alloc (.cells (cL 2 z).toArray 95)) (.cells #[.int .i64 0,.bool false,.string ⟨#[]⟩,.slice none 0 0,.slice none 0 0] 24)
  have b1:=(hA2.block _ (lt_of_heap (heap_alloc_new w (.cells (cL 2 z).toArray 95)))).trans (heap_alloc_new w (.cells (cL 2 z).toArray 95))
  have b2:=heap_alloc_new (w.alloc (.cells (cL 2 z).toArray 95)) (.cells #[.int .i64 0,.bool false,.string ⟨#[]⟩,.slice none 0 0,.slice none 0 0] 24)
  rw[show (w.alloc (.cells (cL 2 z).toArray 95)).heap.size=w.heap.size+1 by simp] at b2
  have HB1:=Lib.hid (hA.trans (hA2.mono hA.size))
  have HC1:=Lib.hid b1
  have HR1:=Lib.hid b2
  clear hA hA2 b2 htz hEn
  unfold cL at HB1 HC1 HR1 b1
  have n0:=heap_cell b1 0
  clear b1
  unfold valV noS cC cL
  go_enter Tryz.func61,Tryz.ntmps61
  go_upto_region 6 with fail
  generalize hw1:World.alloc _ _=w1 at *
  clear n0 hw1
  refine inv_region [[],[0],[],[2],[2,3],[0,1,2,3,4],[0,1,2,3,4,5]] (fun _ L W=>VJ z tz w (L 6) W) ?_
  iterate 4
    apply j_con
    · intro x;go_simp;done
    · intro x L W R hJ h1 h2 h3 hR
      have hk:=hJ.cb
      unfold cL at hk
      have k0:=heap_cell hk 0
      have k2:=heap_cell hk 2
      have k3:=heap_cell hk 3
      have k4:=heap_cell hk 4
      have k5:=heap_cell hk 5
      have k6:=heap_cell hk 6
      have k7:=heap_cell hk 7
      clear hk
      unfold addAt
      go_simp
      simp only[addUpon]
      exact hR _ hJ
    simp only[Act.put,List.setIfInBounds_toArray,List.set_cons_zero,List.set_cons_succ]
  apply j_con
  · intro x;go_simp;done
  · intro x L W R hJ h1 h2 h3 hR
    skip
    unfold addAt
    go_simp
    simp only[addUpon]
    refine (HST.out W hJ.bel).mono ?_
    rintro e w' ⟨rfl,hb⟩
    exact ⟨_,rfl,hR _ (hJ.far hb)⟩
  simp only[Act.put,List.setIfInBounds_toArray,List.set_cons_zero,List.set_cons_succ]
  apply j_con
  · intro x;go_simp;done
  · intro x L W R hJ h1 h2 h3 hR
    skip
    unfold addAt
    go_simp
    simp only[addUpon]
    exact hR _ hJ
  simp only[Act.put,List.setIfInBounds_toArray,List.set_cons_zero,List.set_cons_succ]
  apply j_any
  · intro x;go_simp;done
  · intro x L W R hJ h1 h2 h3 hR
    have l6:L 6=false:=h2
    have hrb:=hJ.rb
    rw[l6] at hrb
    have f0:=heap_cell hrb 0
    have g0:=heap_fz hrb 0
    have f1:=heap_cell hrb 1
    have g1:=heap_fz hrb 1
    have f2:=heap_cell hrb 2
    have g2:=heap_fz hrb 2
    have f3:=heap_cell hrb 3
    have g3:=heap_fz hrb 3
    have f4:=heap_cell hrb 4
    have g4:=heap_fz hrb 4
    have HJ:=Lib.hid hJ
    have HQ:=Lib.hid hrb
    clear hJ hrb
    unfold addAt
    go_simp
    simp only[addUpon]
    obtain ⟨s1,s2,s3⟩:=set5 HQ.out (.int .i64 2) (.bool false) (.string tz) (.slice none 0 0) (.slice none 0 0)
    exact hR _ _ ⟨(s2 _ (by omega)).trans HJ.out.cb,s1,s3 HJ.out.bel (by omega)⟩
  simp only[Act.put]
  refine j_nil (by kernel_rfl) (by kernel_rfl) ⟨HC1.out,HR1.out,HB1.out.drew⟩ ?_
  intro x L W hJ hL
  have l6:L 6=true:=hL 6 (show 6<7 by decide)
  rw[l6] at hJ
  have HJ:=Lib.hid hJ
  clear hJ hL l6
  go_wp2
  exact end_val1 rfl rfl rfl ⟨_,_,_,rfl⟩ ⟨_,_,_,rfl⟩ HJ.out.rb ⟨rfl,HJ.out.bel⟩
theorem node_div {E g c:Nat} {a b:Int} {m1 m2:Value} (w:World) (hEn:∀W,w.grownBy W (some E)→Env W) (ha:Small a) (hb0:Small b) (h0:b≠0) (hq:Small (a / b)) (hr:Small (a % b)) (h:EV E g c [⟨16,0,⟨#[]⟩,TI b,1⟩,⟨3,2,⟨#[]⟩,TI a,0⟩] 0 m1 m2 w):
    Calls Tryz.prog 60 #[.pointer (some ⟨E,0,none⟩)] w fun e w'=>e=.returned (cC 2 (a / b))∧EV E g c [⟨16,0,⟨#[]⟩,TI b,1⟩,⟨3,2,⟨#[]⟩,TI a,0⟩] 2 m1 m2 w'∧w.grownBy w' (some E):=by
  have hA:=alloc_far' w (.cells (cL 0 0).toArray 95)
  obtain ⟨ts,hts⟩:∃ts:List Nd,[(⟨16,0,⟨#[]⟩,TI b,1⟩:Nd),⟨3,2,⟨#[]⟩,TI a,0⟩]=ts:=⟨_,rfl⟩
  have hn:ts.length=2:=by rw[←hts];rfl
  have hi0:ts[0]? =some ⟨16,0,⟨#[]⟩,TI b,1⟩:=by rw[←hts];rfl
  have hi1:ts[1]? =some ⟨3,2,⟨#[]⟩,TI a,0⟩:=by rw[←hts];rfl
  rw[hts] at h
  rw[hts]
  clear hts
  have HEV:=Lib.hid (h.far hA)
  have HRB:=Lib.hid (heap_alloc_new w (.cells (cL 0 0).toArray 95))
  have HBL:=Lib.hid hA
  have HER:Hid (E<w.heap.size):=Lib.hid (lt_of_heap h.ev)
  have HGR:Hid (g<w.heap.size):=Lib.hid h.gl
  have HTN:=Lib.hid fun (W:World) (hW:NodesAt W g ts)=>nd_cells hi0 hW
  have HEN:=Lib.hid hEn
  have HLF:=Lib.hid fun (W:World) (hW:w.grownBy W (some E)) (hv:EV E g c ts ((1:Nat):Int) m1 m2 W)=>node_leaf W (fun W' hW'=>hEn W' (grown_trans hW hW')) ha hi1 (by omega) hv
  have HOP:=Lib.hid fun (W:World) (hW:w.grownBy W (some E)) (K:Nat) (hK:W.heap[K]? =some (.cells (cL 2 a).toArray 95 (0,0)))=>op_div (c:=1) W (hEn W hW) ha hb0 h0 hq hr hK
  obtain ⟨tb,htb⟩:∃t,TI b=t:=⟨_,rfl⟩
  rw[htb] at HTN HOP
  clear hA h hEn htb hi0 hi1
  have hil:ts.length≤1000:=by omega
  unfold cL at HRB HEV HBL
  simp only[Nat.zero_mul,Nat.zero_add] at HTN
  go_enter Tryz.func60,Tryz.ntmps60
  go_upto_region 1 with fail
  generalize hw1:World.alloc _ _=w1 at *
  generalize hR:w.heap.size=rI at *
  have HRW:=Lib.hid hR
  refine inv_region [[],[0],[0,1],[0,1,2],[],[4],[4,5],[4,5,6],[0,1,2,3,4,5,6,7],[0,1,2,3,4,5,6,7,8],[],[0,1,2,3,4,5,6,7,8,9,10]] (fun x L W=>NJ E g c ts 0 m1 m2 rI #[.int .i64 16,.int .i64 0,.string ⟨#[]⟩,.string tb,.int .i64 1] w (L 10) (L 11) (x 10) W) ?_
  iterate 8
    apply j_con
    · intro x;go_simp;done
    · intro x L W R hJ h1 h2 h3 hR
      have z0:=heap_cell hJ.ev.ev 0
      have z1:=heap_cell hJ.ev.ev 1
      unfold addAt
      go_simp
      simp only[addUpon]
      exact hR _ hJ
    simp only[Act.put,List.setIfInBounds_toArray,List.set_cons_zero,List.set_cons_succ]
  apply j_con
  · intro x;go_simp;done
  · intro x L W R hJ h1 h2 h3 hR
    skip
    unfold addAt
    go_simp
    simp only[addUpon]
    exact hR _ hJ
  simp only[Act.put,List.setIfInBounds_toArray,List.set_cons_zero,List.set_cons_succ]
  apply j_con
  · intro x;go_simp;done
  · intro x L W R hJ h1 h2 h3 hR
    obtain ⟨q0,q1,q2,q3,q4⟩:=HTN.out W hJ.ev.nd
    unfold addAt
    go_simp
    simp only[addUpon]
    exact hR _ hJ
  simp only[Act.put,List.setIfInBounds_toArray,List.set_cons_zero,List.set_cons_succ]
  apply j_any
  · intro x;go_simp;done
  · intro x L W R hJ h1 h2 h3 hR
    have hj:=hJ.far (alloc_far' W (.cells #[.int .i64 0,.int .i64 0,.string ⟨#[]⟩,.string ⟨#[]⟩,.int .i64 0] 57))
    have HJ:=Lib.hid hj
    have HR0:=Lib.hid (lt_of_heap hJ.rb)
    clear hJ hj
    unfold addAt
    go_simp
    simp only[addUpon]
    have h11:L 11=false:=h3 11 (show (10:Nat)∈([0,1,2,3,4,5,6,7,8,9,10]:List Nat) by decide)
    exact hR _ _ ⟨HJ.out.ev,HJ.out.rb,HJ.out.bel,fun _=>⟨_,rfl,HR0.out,by show (if L 11=true then _ else _);rw[h11];exact heap_alloc_new W _⟩⟩
  simp only[Act.put,List.setIfInBounds_toArray,List.set_cons_zero,List.set_cons_succ,List.length_cons,List.length_nil,Nat.zero_add,Nat.reduceAdd]
  apply j_any
  · intro x;go_simp;done
  · intro x L W R hJ h1 h2 h3 hR
    have h11:L 11=false:=h2
    obtain ⟨N,q1,q2,q3⟩:=hJ.b10 (h1 10 (show (10:Nat)∈([0,1,2,3,4,5,6,7,8,9,10]:List Nat) by decide))
    rw[h11,if_neg Bool.false_ne_true] at q3
    have f0:=heap_cell q3 0
    have g0:=heap_fz q3 0
    have f1:=heap_cell q3 1
    have g1:=heap_fz q3 1
    have f2:=heap_cell q3 2
    have g2:=heap_fz q3 2
    have f3:=heap_cell q3 3
    have g3:=heap_fz q3 3
    have f4:=heap_cell q3 4
    have g4:=heap_fz q3 4
    have HJ:=Lib.hid hJ
    have HQ:=Lib.hid q3
    clear hJ q3
    rw[q1]
    unfold addAt
    go_simp
    simp only[addUpon]
    obtain ⟨s1,s2,s3⟩:=set5 HQ.out (.int .i64 16) (.int .i64 0) (.string ⟨#[]⟩) (.string tb) (.int .i64 1)
    exact hR _ _ ⟨HJ.out.ev.blocks (s2 E (by have:=HER.out;omega)) (s2 g (by have:=HGR.out;omega)),(s2 rI (by omega)).trans HJ.out.rb,s3 HJ.out.bel (by omega),fun _=>⟨N,q1,q2,s1⟩⟩
  simp only[Act.put]
  refine j_nil (by kernel_rfl) (by kernel_rfl) ⟨HEV.out.drew,HRB.out,HBL.out.drew,(fun e=>by cases e)⟩ ?_
  intro x L W hJ hL
  have l10:L 10=true:=hL 10 (show 10<12 by decide)
  have l11:L 11=true:=hL 11 (show 11<12 by decide)
  rw[l10,l11] at hJ
  obtain ⟨N,q1,q2,q3⟩:=hJ.b10 rfl
  rw[if_pos rfl] at q3
  have hev:=hJ.ev
  have hrb:=hJ.rb
  have hbl:=hJ.bel
  rw[q1]
  have HEV2:=Lib.hid hev
  have HRB2:=Lib.hid hrb
  have HBL2:=Lib.hid hbl
  have HN2:=Lib.hid q3
  have HNR:Hid (rI<N):=Lib.hid q2
  have e1:=heap_cell hev.ev 1
  have e1z:=heap_fz hev.ev 1
  clear hJ hL l10 l11 hev hrb hbl q1 q3 HEV HRB HBL
  go_upto_region 3 with fail
  have hnE:∀b,b≠E→(W.setCell ⟨E,1,none⟩ (.int .i64 1)).heap[b]? =W.heap[b]? :=fun b hb=>Below.heap_setCell _ _ _ _ hb
  have hev:EV E g c ts ((1:Nat):Int) m1 m2 (W.setCell ⟨E,1,none⟩ (.int .i64 1)):=⟨heap_set HEV2.out.ev 1 _,fun i x hx j hj=>(World.cell?_of_block (a:=⟨g,i*5+j,none⟩) (hnE g HEV2.out.ne.symm)).trans (HEV2.out.nd i x hx j hj),by simpa [World.setCell] using HEV2.out.gl,HEV2.out.ne⟩
  have hgr:w.grownBy (W.setCell ⟨E,1,none⟩ (.int .i64 1)) (some E):=grown_setCell (grown_more (grown_below (by rw[HRW.out];exact HBL2.out))) 1 _
  have hN:=(hnE N (by have:=HNR.out;have:=HER.out;omega)).trans HN2.out
  have hR:=(hnE rI (by have:=HER.out;omega)).trans HRB2.out
  clear e1 e1z HEV2 HRB2 HBL2 HN2 hnE
  generalize hw3:W.setCell ⟨E,1,none⟩ (.int .i64 1)=w3 at *
  have hal:=alloc_far' w3 (.cells (cL 0 0).toArray 95)
  have HEV3:=Lib.hid (hev.far hal)
  have HGR3:=Lib.hid (grown_call hgr hal)
  have HN3:=Lib.hid ((hal.block _ (lt_of_heap hN)).trans hN)
  have HR3:=Lib.hid ((hal.block _ (lt_of_heap hR)).trans hR)
  have HK3:=Lib.hid (heap_alloc_new w3 (.cells (cL 0 0).toArray 95))
  have n4:=heap_cell hN 4
  have HKN:Hid (N<w3.heap.size∧rI<w3.heap.size):=Lib.hid ⟨lt_of_heap hN,lt_of_heap hR⟩
  have HKE:Hid (E<w3.heap.size∧g<w3.heap.size):=Lib.hid ⟨lt_of_heap hev.ev,hev.gl⟩
  have HWS:Hid (w.heap.size≤w3.heap.size):=Lib.hid hgr.size
  have hmk:=run_cells1 w3
  clear hev hgr hN hR hw3 hal
  go_upto_region 4 with fail
  clear hmk n4
  generalize hK:w3.heap.size=K at *
  generalize hw4:w3.alloc (.cells (cL 0 0).toArray 95)=w4 at *
  clear hw4
  go_wp2_with fail
  go_loopw [5,28] (fun v5 v wr=>(v=.int .i64 0∧wr=w4)∨(v=.int .i64 1∧EV E g c ts 2 m1 m2 wr∧w.grownBy wr (some E)∧wr.heap[N]? =some (.cells #[.int .i64 16,.int .i64 0,.string ⟨#[]⟩,.string tb,.int .i64 1] 57 (0,0))∧wr.heap[rI]? =some (.cells (cL 0 0).toArray 95 (0,0))∧wr.heap[K]? =some (.cells (cL 2 a).toArray 95 (0,0)))) (fun _ v _=>1-(intOf v).toNat)
  case atStart=>exact .inl ⟨rfl,rfl⟩
  case round=>
    rcases hrel with ⟨rfl,rfl⟩ | ⟨rfl,hev,hgr,hN,hR,hKK⟩
    · go_wp2_with fail
      refine (HLF.out _ HGR3.out HEV3.out).mono ?_
      rintro e w5 ⟨rfl,hev,hg5⟩
      have hE1:∀b,b<wr.heap.size→b≠E→w5.heap[b]? =wr.heap[b]? :=fun b hb hne=>hg5.block b hb fun e=>hne (Option.some.inj e)
      have hN:=(hE1 N (lt_of_heap HN3.out) (by have:=HNR.out;have:=HER.out;omega)).trans HN3.out
      have hR:=(hE1 rI (lt_of_heap HR3.out) (by have:=HER.out;omega)).trans HR3.out
      have hKK:=(hE1 K (lt_of_heap HK3.out) (by have:=HKE.out;omega)).trans HK3.out
      have hgr:=grown_trans HGR3.out hg5
      have HEV5:=Lib.hid hev
      have HGR5:=Lib.hid hgr
      have HN5:=Lib.hid hN
      have HR5:=Lib.hid hR
      have HK5:=Lib.hid hKK
      unfold cL at hKK
      have f0:=heap_cell hKK 0
      have q0:=heap_fz hKK 0
      have f1:=heap_cell hKK 1
      have q1:=heap_fz hKK 1
      have f2:=heap_cell hKK 2
      have q2:=heap_fz hKK 2
      have f3:=heap_cell hKK 3
      have q3:=heap_fz hKK 3
      have f4:=heap_cell hKK 4
      have q4:=heap_fz hKK 4
      have f5:=heap_cell hKK 5
      have q5:=heap_fz hKK 5
      have f6:=heap_cell hKK 6
      have q6:=heap_fz hKK 6
      have f7:=heap_cell hKK 7
      have q7:=heap_fz hKK 7
      have f8:=heap_cell hKK 8
      have q8:=heap_fz hKK 8
      have f9:=heap_cell hKK 9
      have q9:=heap_fz hKK 9
      have f10:=heap_cell hKK 10
      have q10:=heap_fz hKK 10
      have f11:=heap_cell hKK 11
      have q11:=heap_fz hKK 11
      have f12:=heap_cell hKK 12
      have q12:=heap_fz hKK 12
      have hfin:=heap_sets (cL 2 a) 0 hKK
      rw[setsA_all] at hfin
      rotate_left
      · rfl
      have HF:=Lib.hid hfin
      clear hev hg5 hE1 hN hR hgr hfin hKK
      unfold cC cL
      go_wp2_with fail
      go_roundw
      case rel=>
        refine .inr ⟨rfl,HEV5.out.blocks (heap_sets_ne (by have:=HKE.out;omega) (cL 2 a) 0 w5) (heap_sets_ne (by have:=HKE.out;omega) (cL 2 a) 0 w5),grown_setsN (by have:=HWS.out;omega) (cL 2 a) 0 HGR5.out,(heap_sets_ne (by have:=HKN.out;omega) (cL 2 a) 0 w5).trans HN5.out,(heap_sets_ne (by have:=HKN.out;omega) (cL 2 a) 0 w5).trans HR5.out,HF.out⟩
      case measure=>simp[intOf]
    · have n0:=heap_cell hN 0
      have n1:=heap_cell hN 1
      have n2:=heap_cell hN 2
      have n3:=heap_cell hN 3
      have n4:=heap_cell hN 4
      have e4:=heap_cell hev.ev 4
      have HEV6:=Lib.hid hev
      have HGR6:=Lib.hid hgr
      have HR6:=Lib.hid hR
      have hop:=HOP.out _ hgr K hKK
      clear hev hgr hN hR hKK
      go_wp2_with fail
      refine hop.mono ?_
      rintro e w7 ⟨rfl,hb⟩
      have hR:=(hb.block _ (lt_of_heap HR6.out)).trans HR6.out
      have HEV7:=Lib.hid (HEV6.out.far hb)
      have HGR7:=Lib.hid (grown_call HGR6.out hb)
      unfold cL at hR
      have f0:=heap_cell hR 0
      have q0:=heap_fz hR 0
      have f1:=heap_cell hR 1
      have q1:=heap_fz hR 1
      have f2:=heap_cell hR 2
      have q2:=heap_fz hR 2
      have f3:=heap_cell hR 3
      have q3:=heap_fz hR 3
      have f4:=heap_cell hR 4
      have q4:=heap_fz hR 4
      have f5:=heap_cell hR 5
      have q5:=heap_fz hR 5
      have f6:=heap_cell hR 6
      have q6:=heap_fz hR 6
      have f7:=heap_cell hR 7
      have q7:=heap_fz hR 7
      have f8:=heap_cell hR 8
      have q8:=heap_fz hR 8
      have f9:=heap_cell hR 9
      have q9:=heap_fz hR 9
      have f10:=heap_cell hR 10
      have q10:=heap_fz hR 10
      have f11:=heap_cell hR 11
      have q11:=heap_fz hR 11
      have f12:=heap_cell hR 12
      have q12:=heap_fz hR 12
      have hfin:=heap_sets (cL 2 (a / b)) 0 hR
      rw[setsA_all] at hfin
      rotate_left
      · rfl
      have HF:=Lib.hid hfin
      clear hb hop n0 n1 n2 n3 n4 e4 hR hfin
      unfold cC cL
      go_wp2
      exact end_cell (s:=2) (z:=a / b) rfl rfl rfl HF.out ⟨rfl,HEV7.out.blocks (heap_sets_ne (by have:=HER.out;omega) (cL 2 (a / b)) 0 w7) (heap_sets_ne (by have:=HGR.out;omega) (cL 2 (a / b)) 0 w7),grown_setsN (by have:=HRW.out;omega) (cL 2 (a / b)) 0 HGR7.out⟩
end
end Go.Proofs.YtpkfnnkbfphfbaaGreatDoor.Se
/- value.Eval at (div (- 7) 2). -/
namespace Go.Proofs.YtpkfnnkbfphfbaaGreatDoor.Se
open Go.RowKit Nmx

def tsD:List Nd:=[⟨16,0,⟨#[]⟩,TI 2,1⟩,⟨3,2,⟨#[]⟩,TI (-7),0⟩]
theorem vd_D:vdF (naF tsD) tsD=true:=by kernel_rfl
section
theorem eval_div (g c:Nat) (w:World) (hEn:Env w) (hN:NodesAt w g tsD) (hg:g<w.heap.size):
    Calls Tryz.prog 35 #[.slice (some ⟨g,0,none⟩) 2 c,.slice none 0 0,.slice none 0 0] w fun e w'=>e=.returned (.tuple #[valV 2 false (TI (-4)) noS noS,.int .i64 0])∧Below w.heap.size w w':=by
  have hA:=alloc_far' w (.cells #[.int .i64 0,.bool false,.string ⟨#[]⟩,.slice none 0 0,.slice none 0 0] 24)
  have hva:=valid_of (chk_vars g c tsD _ (by decide) (Nat.lt_of_lt_of_le hg hA.size) (hN.below hA hg) (by
    intro x hx
    have hs:∀z:Int,Sm z→(TI z).size≤1000:=fun z h=>by have:=h.sz;omega
    rcases List.mem_cons.1 hx with rfl | hx
    · exact hs 2 (by unfold Sm;decide)
    · rw[List.mem_singleton.1 hx];exact hs (-7) (by unfold Sm;decide)) (hEn.far hA) (by
    intro x hx
    rcases List.mem_cons.1 hx with rfl | hx
    · decide
    · rw[List.mem_singleton.1 hx];decide))
  rw[vd_D] at hva
  have hva':Calls Tryz.prog 49 #[.slice (some ⟨g,0,none⟩) 2 c] (w.alloc (.cells #[.int .i64 0,.bool false,.string ⟨#[]⟩,.slice none 0 0,.slice none 0 0] 24)) _:=hva
  have HR:=Lib.hid (heap_alloc_new w (.cells #[.int .i64 0,.bool false,.string ⟨#[]⟩,.slice none 0 0,.slice none 0 0] 24))
  have HB:=Lib.hid hA
  have HN:=Lib.hid hN
  have HG:Hid (g<w.heap.size):=Lib.hid hg
  have HEn:=Lib.hid hEn
  clear hA hva hN hg hEn
  have hm1:=@run_map0 Tryz.prog 81
  have hm2:=@run_map0 Tryz.prog 82
  unfold valV noS
  go_enter Tryz.func35,Tryz.ntmps35
  go_wp2_with fail
  generalize hw1:World.alloc _ _=w1 at *
  refine hva'.mono ?_
  rintro e w2 ⟨rfl,hb⟩
  have hb2:=HB.out.trans (hb.mono HB.out.size)
  have hR2:=(hb.block _ (lt_of_heap HR.out)).trans HR.out
  have hN2:=HN.out.below hb2 HG.out
  have HB2:=Lib.hid hb2
  have HR2:=Lib.hid hR2
  have HN2:=Lib.hid hN2
  have HSZ:Hid (w.heap.size<w2.heap.size):=Lib.hid (lt_of_heap hR2)
  clear hb hva' hb2 hR2 hN2 HB HR hw1
  have a1:=alloc_far' w2 (.map #[] 0)
  have a2:=alloc_far' (w2.alloc (.map #[] 0)) (.map #[] 0)
  have a3:=alloc_far' ((w2.alloc (.map #[] 0)).alloc (.map #[] 0)) (.cells #[.slice (some ⟨g,0,none⟩) 2 c,.int .i64 0,.map (some w2.heap.size),.map (some (w2.heap.size+1)),.int .i64 0] 84)
  have hE:=heap_alloc_new ((w2.alloc (.map #[] 0)).alloc (.map #[] 0)) (.cells #[.slice (some ⟨g,0,none⟩) 2 c,.int .i64 0,.map (some w2.heap.size),.map (some (w2.heap.size+1)),.int .i64 0] 84)
  rw[show ((w2.alloc (.map #[] 0)).alloc (.map #[] 0)).heap.size=w2.heap.size+1+1 by simp] at hE
  have hb3:=a1.trans ((a2.trans (a3.mono a2.size)).mono a1.size)
  go_upto_region 4 with fail
  generalize hw3:World.alloc (World.alloc (World.alloc _ _) _) _=w3 at *
  have HE:=Lib.hid hE
  have HB3:=Lib.hid (HB2.out.trans (hb3.mono HB2.out.size))
  have HR3:=Lib.hid ((hb3.block _ (lt_of_heap HR2.out)).trans HR2.out)
  have HN3:=Lib.hid (HN.out.below HB3.out HG.out)
  clear a1 a2 a3 hb3 hE hw3 hm1 hm2 HB2 HR2 HN2
  go_wp2_with fail
  go_loop [28] (fun v=>v=.int .i64 0) (fun _=>0)
  case atStart=>exact rfl
  case round=>
    subst hrel
    go_wp2_with fail
    go_loop [60] (fun v=>v=.int .i64 0) (fun _=>0)
    case atStart=>exact rfl
    case round=>
      subst hrel
      have hev:EV (w2.heap.size+1+1) g c tsD 0 (.map (some w2.heap.size)) (.map (some (w2.heap.size+1))) w3:=⟨HE.out,HN3.out,Nat.lt_of_lt_of_le HG.out HB3.out.size,by have:=HG.out;have:=HSZ.out;omega⟩
      have hnd:=node_div w3 (a:= -7) (b:=2) (fun W hW=>HEn.out.far (HB3.out.grown hW HB3.out.size (fun k e=>by cases e;have:=HSZ.out;omega))) (by unfold Small;decide) (by unfold Small;decide) (by decide) (by unfold Small;decide) (by unfold Small;decide) hev
      rw[show (-7:Int) / 2= -4 by decide] at hnd
      clear hev
      go_wp2_with fail
      refine hnd.mono ?_
      rintro e w4 ⟨rfl,hev,hgr⟩
      have hbe:=HB3.out.grown hgr HB3.out.size (fun k e=>by cases e;have:=HSZ.out;omega)
      have hR4:=(hgr.block _ (lt_of_heap HR3.out) (fun e=>by have:=Option.some.inj e;have:=HSZ.out;omega)).trans HR3.out
      have hal:=alloc_far' w4 (.cells (cL 2 (-4)).toArray 95)
      have hc5:=heap_alloc_new w4 (.cells (cL 2 (-4)).toArray 95)
      have hE5:=(hal.block _ (lt_of_heap hev.ev)).trans hev.ev
      have HR5:=Lib.hid ((hal.block _ (lt_of_heap hR4)).trans hR4)
      have HB5:=Lib.hid (hbe.trans (hal.mono hbe.size))
      have hval:=fun W (hW:Below w.heap.size w W)=>cell_value (z:= -4) W (HEn.out.far hW) (by unfold Small;decide)
      have HVAL:=Lib.hid hval
      clear hnd hev hgr hbe hR4 hal hval
      unfold cC cL at hc5 HVAL ⊢
      unfold cL at hE5 HR5 HB5
      go_upto_region 23 with fail
      generalize hw5:World.alloc w4 _=w5 at *
      have e4:=heap_cell hE5 4
      have c0:=heap_cell hc5 0
      have c1:=heap_cell hc5 1
      have c2:=heap_cell hc5 2
      have c3:=heap_cell hc5 3
      have c4:=heap_cell hc5 4
      have c5:=heap_cell hc5 5
      have c6:=heap_cell hc5 6
      have c7:=heap_cell hc5 7
      have c8:=heap_cell hc5 8
      have c9:=heap_cell hc5 9
      have c10:=heap_cell hc5 10
      have c11:=heap_cell hc5 11
      have c12:=heap_cell hc5 12
      clear hc5 hE5 hw5
      go_wp2_with fail
      refine (HVAL.out _ HB5.out).mono ?_
      rintro e w6 ⟨rfl,hb⟩
      have hR:=(hb.block _ (lt_of_heap HR5.out)).trans HR5.out
      have HB6:=Lib.hid (HB5.out.trans (hb.mono HB5.out.size))
      have HFIN:=Lib.hid (set5 hR (.int .i64 2) (.bool false) (.string (TI (-4))) (.slice none 0 0) (.slice none 0 0))
      have f0:=heap_cell hR 0
      have f1:=heap_cell hR 1
      have f2:=heap_cell hR 2
      have f3:=heap_cell hR 3
      have f4:=heap_cell hR 4
      have g0:=heap_fz hR 0
      have g1:=heap_fz hR 1
      have g2:=heap_fz hR 2
      have g3:=heap_fz hR 3
      have g4:=heap_fz hR 4
      clear hb hR e4 c0 c1 c2 c3 c4 c5 c6 c7 c8 c9 c10 c11 c12
      unfold valV noS
      go_wp2
      obtain ⟨s1,s2,s3⟩:=HFIN.out
      exact end_val2 (E:=0) rfl rfl rfl rfl ⟨_,_,_,rfl⟩ ⟨_,_,_,rfl⟩ s1 ⟨rfl,s3 HB6.out (Nat.le_refl _)⟩
end
end Go.Proofs.YtpkfnnkbfphfbaaGreatDoor.Se

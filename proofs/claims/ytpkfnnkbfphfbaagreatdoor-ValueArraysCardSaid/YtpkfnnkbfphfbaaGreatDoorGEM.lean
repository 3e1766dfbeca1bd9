/- The evaluator's operation at a quotient of small integers. -/
import Derived.Test.YtpkfnnkbfphfbaaGreatDoorGEL
set_option maxRecDepth 100000
set_option maxHeartbeats 40000000
namespace Go.Proofs.YtpkfnnkbfphfbaaGreatDoor.Se
open Go.RowKit Nmx

theorem Below.sets {S q:Nat} {w W:World} (hq:S≤q) (vs:List Value) (o:Nat) (h:Below S w W):Below S w (W.setCells q o vs):=by
  induction vs generalizing o W with
  | nil=>exact h
  | cons v r ih=>exact ih (o+1) (h.setCell hq _)
structure QJ (K:Nat) (tb:ByteArray) (a b:Int) (w:World) (p13 p14 p15 p16:Bool) (v13 v14:Value) (W:World):Prop where
  nb:W.heap[w.heap.size]? =some (.cells #[.int .i64 16,.int .i64 0,.string ⟨#[]⟩,.string tb,.int .i64 1] 57 (0,0))
  rb:W.heap[w.heap.size+1]? =some (.cells (cL 0 0).toArray 95 (0,0))
  kb:W.heap[K]? =some (.cells (cL 2 a).toArray 95 (0,0))
  bel:Below w.heap.size w W
  b13:p13=true→∃B,v13=.pointer (some ⟨B,0,none⟩)∧w.heap.size+1<B∧if p15=true then W.heap[B]? =some (.cells #[.int .i64 (a / b),.bool false,.slice none 0 0] 73 (0,0)) else W.heap[B]? =some (.cells #[.int .i64 0,.bool false,.slice none 0 0] 73 (0,0))
  b14:p14=true→∃B,v14=.pointer (some ⟨B,0,none⟩)∧w.heap.size+1<B∧if p16=true then W.heap[B]? =some (.cells #[.int .i64 (a % b),.bool false,.slice none 0 0] 73 (0,0)) else W.heap[B]? =some (.cells #[.int .i64 0,.bool false,.slice none 0 0] 73 (0,0))
  ne:p13=true→p14=true→v13≠v14
theorem QJ.far {K:Nat} {tb:ByteArray} {a b:Int} {w:World} {p13 p14 p15 p16:Bool} {v13 v14:Value} {W W':World} (h:QJ K tb a b w p13 p14 p15 p16 v13 v14 W) (hb:Below W.heap.size W W'):QJ K tb a b w p13 p14 p15 p16 v13 v14 W':=by
  refine ⟨(hb.block _ (lt_of_heap h.nb)).trans h.nb,(hb.block _ (lt_of_heap h.rb)).trans h.rb,(hb.block _ (lt_of_heap h.kb)).trans h.kb,h.bel.trans (hb.mono h.bel.size),fun e=>?_,fun e=>?_,h.ne⟩
  · obtain ⟨N,h1,h2,h3⟩:=h.b13 e
    refine ⟨N,h1,h2,?_⟩
    split at h3
    · rw[if_pos (by assumption)];exact (hb.block _ (lt_of_heap h3)).trans h3
    · rw[if_neg (by assumption)];exact (hb.block _ (lt_of_heap h3)).trans h3
  · obtain ⟨N,h1,h2,h3⟩:=h.b14 e
    refine ⟨N,h1,h2,?_⟩
    split at h3
    · rw[if_pos (by assumption)];exact (hb.block _ (lt_of_heap h3)).trans h3
    · rw[if_neg (by assumption)];exact (hb.block _ (lt_of_heap h3)).trans h3
section
theorem op_div {K c:Nat} {a b:Int} (w:World) (hEn:Env w) (ha:Small a) (hb0:Small b) (h0:b≠0) (hq:Small (a / b)) (hr:Small (a % b)) (hK:w.heap[K]? =some (.cells (cL 2 a).toArray 95 (0,0))):
    Calls Tryz.prog 96 #[.agg #[.int .i64 16,.int .i64 0,.string ⟨#[]⟩,.string (TI b),.int .i64 1],.slice (some ⟨K,0,none⟩) 1 c] w fun e w'=>e=.returned (cC 2 (a / b))∧Below w.heap.size w w':=by
  have HMU:=Lib.hid fun (W:World) (hW:Below w.heap.size w W)=>mustC hb0 W (hEn.far hW)
  obtain ⟨tb,htb⟩:∃t,TI b=t:=⟨_,rfl⟩
  rw[htb] at HMU
  rw[htb]
  have HNA:=Lib.hid (numC ha)
  have HNB:=Lib.hid (numC hb0)
  have HQR:=Lib.hid (quoRemC ha hb0 h0 hq hr)
  have HFI:=Lib.hid (fromIntC hq)
  have hA:=alloc_far' w (.cells #[.int .i64 16,.int .i64 0,.string ⟨#[]⟩,.string tb,.int .i64 1] 57)
  have hA2:=alloc_far' (w.alloc (.cells #[.int .i64 16,.int .i64 0,.string ⟨#[]⟩,.string tb,.int .i64 1] 57)) (.cells (cL 0 0).toArray 95)
  have b1:=(hA2.block _ (lt_of_heap (heap_alloc_new w (.cells #[.int .i64 16,.int .i64 0,.string ⟨#[]⟩,.string tb,.int .i64 1] 57)))).trans (heap_alloc_new w (.cells #[.int .i64 16,.int .i64 0,.string ⟨#[]⟩,.string tb,.int .i64 1] 57))
  have b2:=heap_alloc_new (w.alloc (.cells #[.int .i64 16,.int .i64 0,.string ⟨#[]⟩,.string tb,.int .i64 1] 57)) (.cells (cL 0 0).toArray 95)
  rw[show (w.alloc (.cells #[.int .i64 16,.int .i64 0,.string ⟨#[]⟩,.string tb,.int .i64 1] 57)).heap.size=w.heap.size+1 by simp] at b2
  have HB1:=Lib.hid (hA.trans (hA2.mono hA.size))
  have HNB1:=Lib.hid b1
  have HRB1:=Lib.hid b2
  have HKB1:=Lib.hid ((HB1.out.block _ (lt_of_heap hK)).trans hK)
  have HKB:Hid (K<w.heap.size):=Lib.hid (lt_of_heap hK)
  clear htb hA hA2 hK hEn
  have n0:=heap_cell b1 0
  clear b1 b2
  unfold cL at HB1 HNB1 HRB1 HKB1 n0
  go_enter Tryz.func96,Tryz.ntmps96
  go_upto_region 24 with fail
  generalize hw1:World.alloc _ _=w1 at *
  clear n0 hw1
  refine inv_region [[],[0],[0,1],[0,1,2],[0,1,2,3],[],[5],[0,1,2,3,4,5,6],[0,1,2,3,4,5,6,7],[0,1,2,3,4,5,6,7,8],[0,1,2,3,4,5,6,7,8,9],[0,1,2,3,4,5,6,7,8,9,10],[0,1,2,3,4,5,6,7,8,9,10],[],[],[0,1,2,3,4,5,6,7,8,9,10,11,13,14],[0,1,2,3,4,5,6,7,8,9,10,11,12,13,14,15]] (fun x L W=>QJ K tb a b w (L 13) (L 14) (L 15) (L 16) (x 13) (x 14) W) ?_
  iterate 3
    apply j_con
    · intro x;go_simp;done
    · intro x L W R hJ h1 h2 h3 hR
      skip
      unfold addAt
      go_simp
      simp only[addUpon]
      exact hR _ hJ
    simp only[Act.put,List.setIfInBounds_toArray,List.set_cons_zero,List.set_cons_succ]
  apply j_con
  · intro x;go_simp;done
  · intro x L W R hJ h1 h2 h3 hR
    have hk:=hJ.kb
    unfold cL at hk
    have k2:=heap_cell hk 2
    have k3:=heap_cell hk 3
    have k4:=heap_cell hk 4
    have k5:=heap_cell hk 5
    have k6:=heap_cell hk 6
    have k7:=heap_cell hk 7
    clear hk
    unfold addAt
    go_simp
    simp only[addUpon]
    exact hR _ hJ
  simp only[Act.put,List.setIfInBounds_toArray,List.set_cons_zero,List.set_cons_succ]
  apply j_con
  · intro x;go_simp;done
  · intro x L W R hJ h1 h2 h3 hR
    skip
    unfold addAt
    go_simp
    simp only[addUpon]
    refine (HNA.out W).mono ?_
    rintro e w' ⟨rfl,hb⟩
    exact ⟨_,rfl,hR _ (hJ.far hb)⟩
  simp only[Act.put,List.setIfInBounds_toArray,List.set_cons_zero,List.set_cons_succ]
  apply j_con
  · intro x;go_simp;done
  · intro x L W R hJ h1 h2 h3 hR
    skip
    unfold addAt
    go_simp
    simp only[addUpon]
    exact hR _ hJ
  simp only[Act.put,List.setIfInBounds_toArray,List.set_cons_zero,List.set_cons_succ]
  apply j_con
  · intro x;go_simp;done
  · intro x L W R hJ h1 h2 h3 hR
    have n3:=heap_cell hJ.nb 3
    unfold addAt
    go_simp
    simp only[addUpon]
    exact hR _ hJ
  simp only[Act.put,List.setIfInBounds_toArray,List.set_cons_zero,List.set_cons_succ]
  apply j_con
  · intro x;go_simp;done
  · intro x L W R hJ h1 h2 h3 hR
    skip
    unfold addAt
    go_simp
    simp only[addUpon]
    refine (HMU.out W hJ.bel).mono ?_
    rintro e w' ⟨rfl,hb⟩
    exact ⟨_,rfl,hR _ (hJ.far hb)⟩
  simp only[Act.put,List.setIfInBounds_toArray,List.set_cons_zero,List.set_cons_succ]
  apply j_con
  · intro x;go_simp;done
  · intro x L W R hJ h1 h2 h3 hR
    skip
    unfold addAt
    go_simp
    simp only[addUpon]
    refine (HNB.out W).mono ?_
    rintro e w' ⟨rfl,hb⟩
    exact ⟨_,rfl,hR _ (hJ.far hb)⟩
  simp only[Act.put,List.setIfInBounds_toArray,List.set_cons_zero,List.set_cons_succ]
  apply j_con
  · intro x;go_simp;done
  · intro x L W R hJ h1 h2 h3 hR
    skip
    unfold addAt
    go_simp
    simp only[addUpon]
    refine (HQR.out W).mono ?_
    rintro e w' ⟨rfl,hb⟩
    exact ⟨_,rfl,hR _ (hJ.far hb)⟩
  simp only[Act.put,List.setIfInBounds_toArray,List.set_cons_zero,List.set_cons_succ]
  iterate 3
    apply j_con
    · intro x;go_simp;done
    · intro x L W R hJ h1 h2 h3 hR
      try unfold iC
      unfold addAt
      go_simp
      simp only[addUpon]
      exact hR _ hJ
    simp only[Act.put,List.setIfInBounds_toArray,List.set_cons_zero,List.set_cons_succ]
  apply j_any
  · intro x;go_simp;done
  · intro x L W R hJ h1 h2 h3 hR
    have hj:=hJ.far (alloc_far' W (.cells #[.int .i64 0,.bool false,.slice none 0 0] 73))
    have HJ:=Lib.hid hj
    have HR0:=Lib.hid (lt_of_heap hJ.rb)
    have HO:Hid (L 14=true→∃B,x 14=.pointer (some ⟨B,0,none⟩)∧B<W.heap.size):=Lib.hid (fun e=>by obtain ⟨B,q1,-,q3⟩:=hJ.b14 e;refine ⟨B,q1,?_⟩;split at q3 <;> exact lt_of_heap q3)
    clear hJ hj
    unfold addAt
    go_simp
    simp only[addUpon]
    have h15:L 15=false:=h3 15 (show (13:Nat)∈([0,1,2,3,4,5,6,7,8,9,10,11,13,14]:List Nat) by decide)
    exact hR _ _ ⟨HJ.out.nb,HJ.out.rb,HJ.out.kb,HJ.out.bel,fun _=>⟨_,rfl,HR0.out,by show (if L 15=true then _ else _);rw[h15];exact heap_alloc_new W _⟩,HJ.out.b14,fun _ e h=>by
      obtain ⟨B,q1,q2⟩:=HO.out e
      change Value.pointer _=x 14 at h
      rw[q1] at h
      injection h with h
      injection h with h
      injection h with h
      omega⟩
  simp only[Act.put,List.setIfInBounds_toArray,List.set_cons_zero,List.set_cons_succ,List.length_cons,List.length_nil,Nat.zero_add,Nat.reduceAdd]
  apply j_any
  · intro x;go_simp;done
  · intro x L W R hJ h1 h2 h3 hR
    have hj:=hJ.far (alloc_far' W (.cells #[.int .i64 0,.bool false,.slice none 0 0] 73))
    have HJ:=Lib.hid hj
    have HR0:=Lib.hid (lt_of_heap hJ.rb)
    have HO:Hid (L 13=true→∃B,x 13=.pointer (some ⟨B,0,none⟩)∧B<W.heap.size):=Lib.hid (fun e=>by obtain ⟨B,q1,-,q3⟩:=hJ.b13 e;refine ⟨B,q1,?_⟩;split at q3 <;> exact lt_of_heap q3)
    clear hJ hj
    unfold addAt
    go_simp
    simp only[addUpon]
    have h16:L 16=false:=h3 16 (show (14:Nat)∈([0,1,2,3,4,5,6,7,8,9,10,11,12,13,14,15]:List Nat) by decide)
    exact hR _ _ ⟨HJ.out.nb,HJ.out.rb,HJ.out.kb,HJ.out.bel,HJ.out.b13,fun _=>⟨_,rfl,HR0.out,by show (if L 16=true then _ else _);rw[h16];exact heap_alloc_new W _⟩,fun e _ h=>by
      obtain ⟨B,q1,q2⟩:=HO.out e
      change x 13=Value.pointer _ at h
      rw[q1] at h
      injection h with h
      injection h with h
      injection h with h
      omega⟩
  simp only[Act.put,List.setIfInBounds_toArray,List.set_cons_zero,List.set_cons_succ,List.length_cons,List.length_nil,Nat.zero_add,Nat.reduceAdd]
  apply j_any
  · intro x;go_simp;done
  · intro x L W R hJ h1 h2 h3 hR
    have hi:L 15=false:=h2
    obtain ⟨B,q1,q2,q3⟩:=hJ.b13 (h1 13 (show (13:Nat)∈([0,1,2,3,4,5,6,7,8,9,10,11,13,14]:List Nat) by decide))
    rw[hi,if_neg Bool.false_ne_true] at q3
    have f0:=heap_cell q3 0
    have g0:=heap_fz q3 0
    have f1:=heap_cell q3 1
    have g1:=heap_fz q3 1
    have f2:=heap_cell q3 2
    have g2:=heap_fz q3 2
    have HJ:=Lib.hid hJ
    have HQ:=Lib.hid q3
    clear hJ q3
    rw[q1]
    unfold addAt
    go_simp
    simp only[addUpon]
    have hs1:=heap_set (heap_set (heap_set HQ.out 0 (.int .i64 (a / b))) 1 (.bool false)) 2 (.slice none 0 0)
    have hs2:∀b',b'≠B→(((W.setCell ⟨B,0,none⟩ (.int .i64 (a / b))).setCell ⟨B,1,none⟩ (.bool false)).setCell ⟨B,2,none⟩ (.slice none 0 0)).heap[b']? =W.heap[b']? :=fun b' hb=>(Below.heap_setCell _ _ _ _ hb).trans ((Below.heap_setCell _ _ _ _ hb).trans (Below.heap_setCell _ _ _ _ hb))
    have hw:w.heap.size+1<B:=q2
    have hwB:w.heap.size≤B:=by omega
    refine hR _ _ ⟨(hs2 _ (by omega)).trans HJ.out.nb,(hs2 _ (by omega)).trans HJ.out.rb,(hs2 _ (by have:=HKB.out;omega)).trans HJ.out.kb,((HJ.out.bel.setCell hwB _).setCell hwB _).setCell hwB _,fun _=>⟨B,q1,q2,hs1⟩,fun e=>?_,HJ.out.ne⟩
    obtain ⟨B',r1,r2,r3⟩:=HJ.out.b14 e
    have hne:B'≠B:=fun e'=>HJ.out.ne (h1 13 (show (13:Nat)∈([0,1,2,3,4,5,6,7,8,9,10,11,13,14]:List Nat) by decide)) (h1 14 (show (14:Nat)∈([0,1,2,3,4,5,6,7,8,9,10,11,13,14]:List Nat) by decide)) (by rw[q1,r1,e'])
    exact ⟨B',r1,r2,by show (if L 16=true then _ else _);split at r3 <;> rename_i hh <;> first | (rw[if_pos hh];exact (hs2 B' hne).trans r3) | (rw[if_neg hh];exact (hs2 B' hne).trans r3)⟩
  simp only[Act.put]
  apply j_any
  · intro x;go_simp;done
  · intro x L W R hJ h1 h2 h3 hR
    have hi:L 16=false:=h2
    obtain ⟨B,q1,q2,q3⟩:=hJ.b14 (h1 14 (show (14:Nat)∈([0,1,2,3,4,5,6,7,8,9,10,11,12,13,14,15]:List Nat) by decide))
    rw[hi,if_neg Bool.false_ne_true] at q3
    have f0:=heap_cell q3 0
    have g0:=heap_fz q3 0
    have f1:=heap_cell q3 1
    have g1:=heap_fz q3 1
    have f2:=heap_cell q3 2
    have g2:=heap_fz q3 2
    have HJ:=Lib.hid hJ
    have HQ:=Lib.hid q3
    clear hJ q3
    rw[q1]
    unfold addAt
    go_simp
    simp only[addUpon]
    have hs1:=heap_set (heap_set (heap_set HQ.out 0 (.int .i64 (a % b))) 1 (.bool false)) 2 (.slice none 0 0)
    have hs2:∀b',b'≠B→(((W.setCell ⟨B,0,none⟩ (.int .i64 (a % b))).setCell ⟨B,1,none⟩ (.bool false)).setCell ⟨B,2,none⟩ (.slice none 0 0)).heap[b']? =W.heap[b']? :=fun b' hb=>(Below.heap_setCell _ _ _ _ hb).trans ((Below.heap_setCell _ _ _ _ hb).trans (Below.heap_setCell _ _ _ _ hb))
    have hw:w.heap.size+1<B:=q2
    have hwB:w.heap.size≤B:=by omega
    refine hR _ _ ⟨(hs2 _ (by omega)).trans HJ.out.nb,(hs2 _ (by omega)).trans HJ.out.rb,(hs2 _ (by have:=HKB.out;omega)).trans HJ.out.kb,((HJ.out.bel.setCell hwB _).setCell hwB _).setCell hwB _,fun e=>?_,fun _=>⟨B,q1,q2,hs1⟩,HJ.out.ne⟩
    obtain ⟨B',r1,r2,r3⟩:=HJ.out.b13 e
    have hne:B'≠B:=fun e'=>HJ.out.ne (h1 13 (show (13:Nat)∈([0,1,2,3,4,5,6,7,8,9,10,11,12,13,14,15]:List Nat) by decide)) (h1 14 (show (14:Nat)∈([0,1,2,3,4,5,6,7,8,9,10,11,12,13,14,15]:List Nat) by decide)) (by rw[q1,r1,e'])
    exact ⟨B',r1,r2,by show (if L 15=true then _ else _);split at r3 <;> rename_i hh <;> first | (rw[if_pos hh];exact (hs2 B' hne).trans r3) | (rw[if_neg hh];exact (hs2 B' hne).trans r3)⟩
  simp only[Act.put]
  refine j_nil (by kernel_rfl) (by kernel_rfl) ⟨HNB1.out,HRB1.out,HKB1.out,HB1.out.drew,(fun e=>by cases e),(fun e=>by cases e),(fun e=>by cases e)⟩ ?_
  intro x L W hJ hL
  have l13:L 13=true:=hL 13 (show 13<17 by decide)
  have l15:L 15=true:=hL 15 (show 15<17 by decide)
  obtain ⟨B,q1,q2,q3⟩:=hJ.b13 l13
  rw[if_pos l15] at q3
  rw[q1]
  have n0:=heap_cell hJ.nb 0
  have HQ:=Lib.hid q3
  have HRB:=Lib.hid hJ.rb
  have HBL:=Lib.hid hJ.bel
  have v0:=heap_cell q3 0
  have v1:=heap_cell q3 1
  have v2:=heap_cell q3 2
  clear hJ hL l13 l15 q3 q1
  go_wp2_with fail
  refine (HFI.out W).mono ?_
  rintro e w2 ⟨rfl,hb⟩
  have HRB2:=Lib.hid ((hb.block _ (lt_of_heap HRB.out)).trans HRB.out)
  have HBL2:=Lib.hid (HBL.out.trans (hb.mono HBL.out.size))
  clear hb v0 v1 v2 n0
  go_wp2_with fail
  refine (integerC (z:=a / b) w2).mono ?_
  rintro e w3 ⟨rfl,hb⟩
  have hrb:=(hb.block _ (lt_of_heap HRB2.out)).trans HRB2.out
  have HBL3:=Lib.hid (HBL2.out.trans (hb.mono HBL2.out.size))
  unfold cL at hrb
  have f0:=heap_cell hrb 0
  have g0:=heap_fz hrb 0
  have f1:=heap_cell hrb 1
  have g1:=heap_fz hrb 1
  have f2:=heap_cell hrb 2
  have g2:=heap_fz hrb 2
  have f3:=heap_cell hrb 3
  have g3:=heap_fz hrb 3
  have f4:=heap_cell hrb 4
  have g4:=heap_fz hrb 4
  have f5:=heap_cell hrb 5
  have g5:=heap_fz hrb 5
  have f6:=heap_cell hrb 6
  have g6:=heap_fz hrb 6
  have f7:=heap_cell hrb 7
  have g7:=heap_fz hrb 7
  have f8:=heap_cell hrb 8
  have g8:=heap_fz hrb 8
  have f9:=heap_cell hrb 9
  have g9:=heap_fz hrb 9
  have f10:=heap_cell hrb 10
  have g10:=heap_fz hrb 10
  have f11:=heap_cell hrb 11
  have g11:=heap_fz hrb 11
  have f12:=heap_cell hrb 12
  have g12:=heap_fz hrb 12
  have hfin:=heap_sets (cL 2 (a / b)) 0 hrb
  rw[setsA_all] at hfin
  rotate_left
  · rfl
  have HF:=Lib.hid hfin
  clear hb hrb hfin
  unfold cC cL
  go_wp2
  exact end_cell (s:=2) (z:=a / b) rfl rfl rfl HF.out ⟨rfl,Below.sets (by omega) (cL 2 (a / b)) 0 HBL3.out⟩
end
end Go.Proofs.YtpkfnnkbfphfbaaGreatDoor.Se

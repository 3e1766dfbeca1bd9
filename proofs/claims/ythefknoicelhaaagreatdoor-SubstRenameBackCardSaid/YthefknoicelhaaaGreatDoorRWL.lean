import Derived.Test.YthefknoicelhaaaGreatDoorRWJ
set_option maxRecDepth 100000
set_option maxHeartbeats 40000000
open Go.Lib (hid)
namespace Go.Proofs.YthefknoicelhaaaGreatDoor.Se
open Go.RowKit Nmx Go.Proofs.Tryz
def ah (s:Int) (b:Bool) (num:ByteArray) (k v:Value):Value:=.agg #[.int .i64 s,.bool b,.string num,k,v]
def noS:Value:=.slice none 0 0
theorem cU (b:Bool) (w:World):Calls prog 62 #[ah 1 b ⟨#[]⟩ noS noS] w fun e w'=>e=.returned (.bool true)∧Below w.heap.size w w':=by
 have HB:=hid (alloc_far' w (.cells #[.int .i64 1,.bool b,.string ⟨#[]⟩,.slice none 0 0,.slice none 0 0] 69));unfold ah noS;cases b
 all_goals
  go_enter func62,ntmps62
  go_wp2
  go_ret
  exact ⟨rfl,HB.out⟩
theorem dy (s:Int) (num:ByteArray) (w:World) (hs:num.size≤1000) (h:s=2∧iN num=true∨s=3∧vN num=true):Calls prog 62 #[ah s false num noS noS] w fun e w'=>e=.returned (.bool true)∧Below w.heap.size w w':=by
 have hA:=alloc_far' w (.cells #[.int .i64 s,.bool false,.string num,.slice none 0 0,.slice none 0 0] 69);have HB:=hid hA;unfold ah noS;rcases h with ⟨rfl,h⟩ | ⟨rfl,h⟩
 · have hq:=rIsInt_b num (w.alloc (.cells #[.int .i64 2,.bool false,.string num,.slice none 0 0,.slice none 0 0] 69)) hs h
   go_enter func62,ntmps62
   go_wp2_with fail
   refine hq.mono ?_;rintro e w2 ⟨rfl,hb⟩;have HB2:=hid (HB.out.trans (hb.mono HB.out.size));clear hb hq
   go_wp2
   go_ret
   exact ⟨rfl,HB2.out⟩
 · have hq:=rValid_b num (w.alloc (.cells #[.int .i64 3,.bool false,.string num,.slice none 0 0,.slice none 0 0] 69)) hs h
   go_enter func62,ntmps62
   go_wp2_with fail
   refine hq.mono ?_;rintro e w2 ⟨rfl,hb⟩;have HB2:=hid (HB.out.trans (hb.mono HB.out.size));clear hb hq
   go_wp2
   go_ret
   exact ⟨rfl,HB2.out⟩
theorem bW (num:ByteArray) (w:World) (hs:num.size≤1000) (h:iN num=true):Calls prog 62 #[ah 4 false num noS noS] w fun e w'=>e=.returned (.bool true)∧Below w.heap.size w w':=by
 have hA:=alloc_far' w (.cells #[.int .i64 4,.bool false,.string num,.slice none 0 0,.slice none 0 0] 69);have hX:=heap_alloc_new w (.cells #[.int .i64 4,.bool false,.string num,.slice none 0 0,.slice none 0 0] 69);have HB:=hid hA;have hq:=rIsInt_b num (w.alloc (.cells #[.int .i64 4,.bool false,.string num,.slice none 0 0,.slice none 0 0] 69)) hs h;unfold ah noS
 go_enter func62,ntmps62
 go_wp2_with fail
 generalize w.alloc (.cells #[.int .i64 4,.bool false,.string num,.slice none 0 0,.slice none 0 0] 69)=w1 at *;generalize hS:w.heap.size=S at *;have HS:=hid hS;refine hq.mono ?_;rintro e w2 ⟨rfl,hb⟩;have hX2:=(hb.block _ (lt_of_heap hX)).trans hX;have d3:=heap_cell hX2 3;have d4:=heap_cell hX2 4;have HB2:=hid (HB.out.trans (hb.mono (Nat.le_of_lt (lt_of_heap hX))));have hsz:S≤w2.heap.size:=Nat.le_of_lt (lt_of_heap hX2);clear hb hq hX hX2 hA hS;have h0:¬(0:Int)<0:=by omega
 go_wp2
 go_loop [3] (fun i=>i=.int .i64 0) (fun _=>0)
 case atStart=>exact rfl
 case round=>
  subst hrel
  go_wp2
  go_ret
  exact ⟨rfl,by rw[HS.out];exact HB2.out⟩
structure VVX (S:Nat) (num key val:ByteArray) (gk ck gv cv:Nat) (w W:World):Prop where
 bx:W.heap[S]? =some (.cells #[.int .i64 4,.bool false,.string num,.slice (some ⟨gk,0,none⟩) 1 ck,.slice (some ⟨gv,0,none⟩) 1 cv] 69 (0,0))
 k0:W.cell? ⟨gk,0,none⟩=some (.string key)
 v0:W.cell? ⟨gv,0,none⟩=some (.string val)
 lk:gk<W.heap.size
 lv:gv<W.heap.size
 bel:Below S w W
theorem VVX.far {S:Nat} {num key val:ByteArray} {gk ck gv cv:Nat} {w W W':World} (h:VVX S num key val gk ck gv cv w W) (hb:Below W.heap.size W W'):VVX S num key val gk ck gv cv w W':=
 ⟨(hb.block _ (lt_of_heap h.bx)).trans h.bx,(hb.cell (p:=⟨gk,0,none⟩) h.lk).trans h.k0,(hb.cell (p:=⟨gv,0,none⟩) h.lv).trans h.v0,Nat.lt_of_lt_of_le h.lk hb.size,Nat.lt_of_lt_of_le h.lv hb.size,h.bel.trans (hb.mono (Nat.le_of_lt (lt_of_heap h.bx)))⟩
theorem cV (num key val:ByteArray) (gk ck gv cv:Nat) (w:World) (hs:num.size≤1000) (h:iN num=true) (hsk:key.size≤1000) (hk:iN key=true) (hsv:val.size≤1000) (hv:iN val=true) (hne:(val.toList==num.toList)=false)
    (k0:w.cell? ⟨gk,0,none⟩=some (.string key)) (v0:w.cell? ⟨gv,0,none⟩=some (.string val)) (lk:gk<w.heap.size) (lv:gv<w.heap.size):
    Calls prog 62 #[ah 4 false num (.slice (some ⟨gk,0,none⟩) 1 ck) (.slice (some ⟨gv,0,none⟩) 1 cv)] w fun e w'=>e=.returned (.bool true)∧Below w.heap.size w w':=by
 have hA:=alloc_far' w (.cells #[.int .i64 4,.bool false,.string num,.slice (some ⟨gk,0,none⟩) 1 ck,.slice (some ⟨gv,0,none⟩) 1 cv] 69);have hV0:VVX w.heap.size num key val gk ck gv cv w (w.alloc (.cells #[.int .i64 4,.bool false,.string num,.slice (some ⟨gk,0,none⟩) 1 ck,.slice (some ⟨gv,0,none⟩) 1 cv] 69)):=⟨heap_alloc_new w _,(hA.cell (p:=⟨gk,0,none⟩) lk).trans k0,(hA.cell (p:=⟨gv,0,none⟩) lv).trans v0,Nat.lt_of_lt_of_le lk hA.size,Nat.lt_of_lt_of_le lv hA.size,hA⟩
 have hq:=rIsInt_b num (w.alloc (.cells #[.int .i64 4,.bool false,.string num,.slice (some ⟨gk,0,none⟩) 1 ck,.slice (some ⟨gv,0,none⟩) 1 cv] 69)) hs h;have hqk:=fun W:World=>rIsInt_b key W hsk hk
 have hqv:=fun W:World=>rIsInt_b val W hsv hv
 unfold ah;clear k0 v0 lk lv hA h hk hv
 go_enter func62,ntmps62
 go_wp2_with fail
 generalize w.alloc (.cells #[.int .i64 4,.bool false,.string num,.slice (some ⟨gk,0,none⟩) 1 ck,.slice (some ⟨gv,0,none⟩) 1 cv] 69)=w1 at *;generalize hS:w.heap.size=S at *;have HS:=hid hS;refine hq.mono ?_;rintro e w2 ⟨rfl,hb⟩;have HV:=hid (hV0.far hb);have d3:=heap_cell HV.out.bx 3;have d4:=heap_cell HV.out.bx 4;clear hb hq hS hV0;have h0:¬(1:Int)<1:=by omega
 go_wp2
 go_loopw [3] (fun i wr=>∃k:Nat,k≤1∧i=.int .i64 k∧VVX S num key val gk ck gv cv w wr) (fun i _=>1-(intOf i).toNat)
 case atStart=>exact ⟨0,Nat.zero_le _,rfl,HV.out⟩
 case round=>
  clear HV d3 d4;obtain ⟨k,hk,rfl,hX⟩:=hrel;have d3:=heap_cell hX.bx 3;have HV:=hid hX;clear hX
  by_cases hk0:k=0
  · subst hk0
    go_upto_region 16 with fail
    refine add_region [[],[0],[],[0,1,2],[0,1,2,3],[0,1,2,3,4],[0,1,2,3,4,5],[0,1,2,3,4,5,6],[0,1,2,3,4,5,6,7],[0,1,2,3,4,5,6,7,8],[0,1,2,3,4,5,6,7],[0,1,2,3,4,5,6,7,8,9,10],[0,1,2,3,4,5,6,7,8,9,10,11],[0,1,2,3,4,5,6,7,8,9,10,11,12],[0,1,2,3,4,5,6,7,8,9,10,11,12,13],[0,1,2,3,4,5,6,7,8,9,10,11,12,13,14],[0,1,2,3,4,5,6,7,8,9,10,11,12,13,14,15],[0,1,2,3,4,5,6,7,8,9,10,11,12,13,14,15,16],[0,1,2,3,4,5,6,7,8,9,10,11,12,13,14,15,16,17],[0,1,2,3,4,5,6,7,8,9,10,11,12,13,14,15,16],[0,1,2,3,4,5,6,7,8,9,10,11,12,13,14,15,16,17,18,19],[0,1,2,3,4,5,6,7,8,9,10,11,12,13,14,15,16,17,18,19,20],[0,1,2,3,4,5,6,7,8,9,10,11,12,13,14,15,16],[0,1,2,3,4,5,6,7,8,9,10,11,12,13,14,15,16,22],[0,1,2,3,4,5,6,7,8,9,10,11,12,13,14,15,16,17,18,19,20,21,22,23],[0,1,2,3,4,5,6,7,8,9,10,11,12,13,14,15,16,17,18,19,20,21,22,23,24],[0,1,2,3,4,5,6,7,8,9,10,11,12,13,14,15,16,17,18,19,20,21,22,23,24,25],[0,1,2,3,4,5,6,7,8,9,10,11,12,13,14,15,16,17,18,19,20,21,22,23,24,25,26],[0,1,2,3,4,5,6,7,8,9,10,11,12,13,14,15,16,17,18,19,20,21,22,23,24,25,26,27],[0,1,2,3,4,5,6,7,8,9,10,11,12,13,14,15,16,17,18,19,20,21,22,23,24,25,26,27,28],[0,1,2,3,4,5,6,7,8,9,10,11,12,13,14,15,16,17,18,19,20,21,22,23,24,25,26,27,28,29],[0,1,2,3,4,5,6,7,8,9,10,11,12,13,14,15,16,17,18,19,20,21,22,23,24,25,26,27,28,29,30],[0,1,2,3,4,5,6,7,8,9,10,11,12,13,14,15,16,17,18,19,20,21,22,23,24,25,26,27,28,29],[0,1,2,3,4,5,6,7,8,9,10,11,12,13,14,15,16,17,18,19,20,21,22,23,24,25,26,27,28,29,32],[0,1,2,3,4,5,6,7,8,9,10,11,12,13,14,15,16,17,18,19,20,21,22,23,24,25,26,27,28,29,30,31,32,33],[0,1,2,3,4,5,6,7,8,9,10,11,12,13,14,15,16,17,18,19,20,21,22,23,24,25,26,27,28,29,30,31,32,33,34],[0,1,2,3,4,5,6,7,8,9,10,11,12,13,14,15,16,17,18,19,20,21,22,23,24,25,26,27,28,29],[0,1,2,3,4,5,6,7,8,9,10,11,12,13,14,15,16,17,18,19,20,21,22,23,24,25,26,27,28,29,36],[0,1,2,3,4,5,6,7,8,9,10,11,12,13,14,15,16,17,18,19,20,21,22,23,24,25,26,27,28,29],[0,1,2,3,4,5,6,7,8,9,10,11,12,13,14,15,16,17,18,19,20,21,22,23,24,25,26,27,28,29,36,37,38],[0,1,2,3,4,5,6,7,8,9,10,11,12,13,14,15,16,17,18,19,20,21,22,23,24,25,26,27,28,29,36,37,38,39],[0,1,2,3,4,5,6,7,8,9,10,11,12,13,14,15,16,17,18,19,20,21,22,23,24,25,26,27,28,29,30,31,32,33,34,35,36,37,38,39,40],[0,1,2,3,4,5,6,7,8,9,10,11,12,13,14,15,16,17,18,19,20,21,22,23,24,25,26,27,28,29,30,31,32,33,34,35,36,37,38,39,40,41],[0,1,2,3,4,5,6,7,8,9,10,11,12,13,14,15,16,17,18,19,20,21,22,23,24,25,26,27,28,29,30,31,32,33,34,35,36,37,38,39,40,41,42],[0,1,2,3,4,5,6,7,8,9,10,11,12,13,14,15,16,17,18,19,20,21,22,23,24,25,26,27,28,29,30,31,32,33,34,35,36,37,38,39,40,41,42,43]] (fun W=>VVX S num key val gk ck gv cv w W) (fun _=>True) ?_
    iterate 5
     apply a_con
     · intro x;go_simp;done
     · intro x W R hW hF hR;have c2:=heap_cell hW.bx 2;have c3:=heap_cell hW.bx 3;have c4:=heap_cell hW.bx 4;have k0:=hW.k0;have v0:=hW.v0;clear hF;unfold addAt
       go_simp
       simp only[addUpon];exact hR _ (Below.refl _ _)
     simp only[Act.put,List.setIfInBounds_toArray,List.set_cons_zero,List.set_cons_succ]
    apply a_con
    · intro x;go_simp;done
    · intro x W R hW hF hR;have c2:=heap_cell hW.bx 2;have c3:=heap_cell hW.bx 3;have c4:=heap_cell hW.bx 4;have k0:=hW.k0;have v0:=hW.v0;clear hF;unfold addAt
      go_simp
      simp only[addUpon];refine (hqk W).mono ?_;rintro e w4 ⟨rfl,hb4⟩;exact ⟨_,rfl,hR _ hb4⟩
    simp only[Act.put,List.setIfInBounds_toArray,List.set_cons_zero,List.set_cons_succ]
    iterate 7
     apply a_con
     · intro x;go_simp;done
     · intro x W R hW hF hR;have c2:=heap_cell hW.bx 2;have c3:=heap_cell hW.bx 3;have c4:=heap_cell hW.bx 4;have k0:=hW.k0;have v0:=hW.v0;clear hF;unfold addAt
       go_simp
       simp only[addUpon];exact hR _ (Below.refl _ _)
     simp only[Act.put,List.setIfInBounds_toArray,List.set_cons_zero,List.set_cons_succ]
    apply a_con
    · intro x;go_simp;done
    · intro x W R hW hF hR;have c2:=heap_cell hW.bx 2;have c3:=heap_cell hW.bx 3;have c4:=heap_cell hW.bx 4;have k0:=hW.k0;have v0:=hW.v0;clear hF;unfold addAt
      go_simp
      simp only[addUpon];refine (hqv W).mono ?_;rintro e w4 ⟨rfl,hb4⟩;exact ⟨_,rfl,hR _ hb4⟩
    simp only[Act.put,List.setIfInBounds_toArray,List.set_cons_zero,List.set_cons_succ]
    iterate 16
     apply a_con
     · intro x;go_simp;done
     · intro x W R hW hF hR;have c2:=heap_cell hW.bx 2;have c3:=heap_cell hW.bx 3;have c4:=heap_cell hW.bx 4;have k0:=hW.k0;have v0:=hW.v0;clear hF;unfold addAt
       go_simp
       simp only[addUpon];exact hR _ (Below.refl _ _)
     simp only[Act.put,List.setIfInBounds_toArray,List.set_cons_zero,List.set_cons_succ]
    iterate 13
     refine a_skip (fun x=>by go_simp;done) ?_;simp only[Act.put,List.setIfInBounds_toArray,List.set_cons_zero,List.set_cons_succ]
    iterate 2
     apply a_con
     · intro x;go_simp;done
     · intro x W R hW hF hR;have c2:=heap_cell hW.bx 2;have c3:=heap_cell hW.bx 3;have c4:=heap_cell hW.bx 4;have k0:=hW.k0;have v0:=hW.v0;clear hF;unfold addAt
       go_simp
       simp only[addUpon];exact hR _ (Below.refl _ _)
     simp only[Act.put,List.setIfInBounds_toArray,List.set_cons_zero,List.set_cons_succ]
    refine a_nil (by kernel_rfl) (by kernel_rfl) (by kernel_rfl) (fun _ _ h hb=>h.far hb) (fun _ _ _ _=>trivial) (fun _ _=>trivial) (HV.out.far (Below.refl _ _).drew) ?_;intro x W hE hW hF hD;clear hD;replace hW:=hW rfl;have HV2:=hid hW;clear hW hF
    go_wp2
    go_roundw
    case rel=>exact ⟨1,by omega,by go_num,HV2.out⟩
    case measure=>simp[intOf]
  · obtain rfl:k=1:=by omega
    go_wp2
    go_ret
    exact ⟨rfl,by rw[HS.out];exact HV.out.bel⟩
theorem ct {fn:Func} {t u:Tmp} {a:Act} {w2:World} {R:Nat} {s E:Int} {b:Bool} {num:ByteArray} {k v:Value} {post:Ending→World→Prop} (hres:fn.results=#[.cell t 69,.tmp u]) (hd:a.defers=[]) (ht:a.tmps.getD t undef=.pointer (some ⟨R,0,none⟩)) (hu:a.tmps.getD u undef=.int .i64 E)
    (hk:∃ak nk ck,k=.slice ak nk ck) (hv:∃av nv cv,v=.slice av nv cv)
    (hR:w2.heap[R]? =some (.cells #[.int .i64 s,.bool b,.string num,k,v] 69 (0,0))) (h:post (.returned (.tuple #[ah s b num k v,.int .i64 E])) w2):
    bodyPost prog fn post .ret a w2:=by
 obtain ⟨ak,nk,ck,rfl⟩:=hk;obtain ⟨av,nv,cv,rfl⟩:=hv;have k0:=heap_cell hR 0;have k1:=heap_cell hR 1;have k2:=heap_cell hR 2;have k3:=heap_cell hR 3;have k4:=heap_cell hR 4
 simp at k0 k1 k2 k3 k4
 refine bodyPost_ret (v:=.tuple #[ah s b num (.slice ak nk ck) (.slice av nv cv),.int .i64 E]) ?_ hd h;have ht':a.tmps[t]?.getD undef=.pointer (some ⟨R,0,none⟩):=by simpa using ht
 have hu':a.tmps[u]?.getD undef=.int .i64 E:=by simpa using hu
 simp[results,hres,go_sem,ah,ht',hu',k0,k1,k2,k3,k4]
theorem aw {fn:Func} {t:Tmp} {a:Act} {w2:World} {R:Nat} {s:Int} {b:Bool} {num:ByteArray} {k v:Value} {post:Ending→World→Prop} (hres:fn.results=#[.cell t 69]) (hd:a.defers=[]) (ht:a.tmps.getD t undef=.pointer (some ⟨R,0,none⟩))
    (hk:∃ak nk ck,k=.slice ak nk ck) (hv:∃av nv cv,v=.slice av nv cv)
    (hR:w2.heap[R]? =some (.cells #[.int .i64 s,.bool b,.string num,k,v] 69 (0,0))) (h:post (.returned (ah s b num k v)) w2):
    bodyPost prog fn post .ret a w2:=by
 obtain ⟨ak,nk,ck,rfl⟩:=hk;obtain ⟨av,nv,cv,rfl⟩:=hv;have k0:=heap_cell hR 0;have k1:=heap_cell hR 1;have k2:=heap_cell hR 2;have k3:=heap_cell hR 3;have k4:=heap_cell hR 4
 simp at k0 k1 k2 k3 k4
 refine bodyPost_ret (v:=ah s b num (.slice ak nk ck) (.slice av nv cv)) ?_ hd h;have ht':a.tmps[t]?.getD undef=.pointer (some ⟨R,0,none⟩):=by simpa using ht
 simp[results,hres,go_sem,ah,ht',k0,k1,k2,k3,k4]
def SK (R:Nat) (key:ByteArray) (u:Value) (W:World):Prop:=∃B c,u=.slice (some ⟨B,0,none⟩) 1 c∧W.cell? ⟨B,0,none⟩=some (.string key)∧B<W.heap.size∧R<B
theorem SK.far {R:Nat} {key:ByteArray} {u:Value} {W W':World} (h:SK R key u W) (hb:Below W.heap.size W W'):SK R key u W':=
 let ⟨B,c,h1,h2,h3,h4⟩:=h;⟨B,c,h1,(hb.cell (p:=⟨B,0,none⟩) h3).trans h2,Nat.lt_of_lt_of_le h3 hb.size,h4⟩
theorem SK.set {R:Nat} {key:ByteArray} {u:Value} {W:World} (h:SK R key u W) {q:Nat} (hq:q≤R) (j:Nat) (x:Value):SK R key u (W.setCell ⟨q,j,none⟩ x):=
 let ⟨B,c,h1,h2,h3,h4⟩:=h;⟨B,c,h1,by rw[World.cell?_setCell_other _ _ _ _ (by intro e;have:=congrArg Addr.block e;simp only at this;omega)];exact h2,by simpa [World.setCell] using h3,h4⟩
theorem SK.sl {R:Nat} {key:ByteArray} {u:Value} {W:World} (h:SK R key u W):∃a n c,u=.slice a n c:=let ⟨_,_,h1,_⟩:=h;⟨_,_,_,h1⟩
def SKV (R:Nat) (num key val:ByteArray) (k v:Value) (W:World):Prop:=(k=noS∧v=noS)∨((val.toList==num.toList)=false∧SK R key k W∧SK R val v W)
theorem SKV.far {R:Nat} {num key val:ByteArray} {k v:Value} {W W':World} (h:SKV R num key val k v W) (hb:Below W.heap.size W W'):SKV R num key val k v W':=by
 rcases h with h | ⟨h1,h2,h3⟩
 · exact .inl h
 · exact .inr ⟨h1,h2.far hb,h3.far hb⟩
theorem SKV.set {R:Nat} {num key val:ByteArray} {k v:Value} {W:World} (h:SKV R num key val k v W) {q:Nat} (hq:q≤R) (j:Nat) (x:Value):SKV R num key val k v (W.setCell ⟨q,j,none⟩ x):=by
 rcases h with h | ⟨h1,h2,h3⟩
 · exact .inl h
 · exact .inr ⟨h1,h2.set hq j x,h3.set hq j x⟩
theorem SKV.sl {R:Nat} {num key val:ByteArray} {k v:Value} {W:World} (h:SKV R num key val k v W):(∃a n c,k=.slice a n c)∧∃a n c,v=.slice a n c:=by
 rcases h with ⟨rfl,rfl⟩ | ⟨-,h2,h3⟩
 · exact ⟨⟨_,_,_,rfl⟩,⟨_,_,_,rfl⟩⟩
 · exact ⟨h2.sl,h3.sl⟩
theorem SKV.mono {R R':Nat} {num key val:ByteArray} {k v:Value} {W:World} (h:SKV R num key val k v W) (hr:R'≤R):SKV R' num key val k v W:=by
 rcases h with h | ⟨h1,⟨B,c,a1,a2,a3,a4⟩,⟨B',c',b1,b2,b3,b4⟩⟩
 · exact .inl h
 · exact .inr ⟨h1,⟨B,c,a1,a2,a3,by omega⟩,⟨B',c',b1,b2,b3,by omega⟩⟩
structure STX (S R:Nat) (num:ByteArray) (k v:Value) (w W:World):Prop where
 b3:W.heap[S]? =some (.cells #[.int .i64 4,.bool false,.string num,.slice none 0 0,.slice none 0 0] 69 (0,0))
 b6:W.heap[S+1]? =some (.cells #[.int .i64 0,.bool false,.string ⟨#[]⟩,.slice none 0 0,.slice none 0 0] 69 (0,0))
 b8:W.heap[R]? =some (.cells #[.int .i64 4,.bool false,.string num,k,v] 69 (0,0))
 lt:S+1<R
 bel:Below S w W
theorem STX.far {S R:Nat} {num:ByteArray} {k v:Value} {w W W':World} (h:STX S R num k v w W) (hb:Below W.heap.size W W'):STX S R num k v w W':=
 ⟨(hb.block _ (lt_of_heap h.b3)).trans h.b3,(hb.block _ (lt_of_heap h.b6)).trans h.b6,(hb.block _ (lt_of_heap h.b8)).trans h.b8,h.lt,h.bel.trans (hb.mono (Nat.le_of_lt (lt_of_heap h.b3)))⟩
theorem STX.set {S R:Nat} {num:ByteArray} {k v:Value} {w W:World} (h:STX S R num k v w W) (j:Nat) (x:Value) (k' v':Value) (he:(#[.int .i64 4,.bool false,.string num,k,v]:Array Value).setIfInBounds j x=#[.int .i64 4,.bool false,.string num,k',v']):STX S R num k' v' w (W.setCell ⟨R,j,none⟩ x):=by
 have hne:∀q,q≠R→(W.setCell ⟨R,j,none⟩ x).heap[q]? =W.heap[q]? :=fun q hq=>Below.heap_setCell _ _ _ _ hq
 exact ⟨(hne S (by have:=h.lt;omega)).trans h.b3,(hne (S+1) (by have:=h.lt;omega)).trans h.b6,by have:=heap_set h.b8 j x;rw[he] at this;exact this,h.lt,h.bel.setCell (show S≤R by have:=h.lt;omega) _⟩
theorem cW:(prog.info? 9).map (fun i=>(i.zero,i.size,i.bytes))=some (some (.string ⟨#[]⟩),1,16):=by kernel_rfl
theorem bK (num key val:ByteArray) (w:World) (hs:num.size≤1000) (h:iN num=true) (hsk:key.size≤1000) (hk:iN key=true) (hsv:val.size≤1000) (hv:iN val=true):
    Calls prog 65 #[ah 4 false num noS noS,.string key,.string val] w fun e w'=>∃k v,e=.returned (.tuple #[ah 4 false num k v,.int .i64 0])∧SKV w.heap.size num key val k v w'∧Below w.heap.size w w':=by
 obtain ⟨i0,hi,hz0,hz1,hz2⟩:=info_parts cW;have hA:=alloc_far' w (.cells #[.int .i64 4,.bool false,.string num,.slice none 0 0,.slice none 0 0] 69);have hA2:=alloc_far' (w.alloc (.cells #[.int .i64 4,.bool false,.string num,.slice none 0 0,.slice none 0 0] 69)) (.cells #[.int .i64 0,.bool false,.string ⟨#[]⟩,.slice none 0 0,.slice none 0 0] 69);have b3:=(hA2.block _ (lt_of_heap (heap_alloc_new w (.cells #[.int .i64 4,.bool false,.string num,.slice none 0 0,.slice none 0 0] 69)))).trans (heap_alloc_new w (.cells #[.int .i64 4,.bool false,.string num,.slice none 0 0,.slice none 0 0] 69));have b6:=heap_alloc_new (w.alloc (.cells #[.int .i64 4,.bool false,.string num,.slice none 0 0,.slice none 0 0] 69)) (.cells #[.int .i64 0,.bool false,.string ⟨#[]⟩,.slice none 0 0,.slice none 0 0] 69);rw[show (w.alloc (.cells #[.int .i64 4,.bool false,.string num,.slice none 0 0,.slice none 0 0] 69)).heap.size=w.heap.size+1 by simp] at b6;have hbel:=hA.trans (hA2.mono hA.size);have hq:=bW num ((w.alloc (.cells #[.int .i64 4,.bool false,.string num,.slice none 0 0,.slice none 0 0] 69)).alloc (.cells #[.int .i64 0,.bool false,.string ⟨#[]⟩,.slice none 0 0,.slice none 0 0] 69)) hs h;have hqk:=fun W:World=>rIsInt_b key W hsk hk
 have hqv:=fun W:World=>rIsInt_b val W hsv hv
 unfold ah noS at hq;unfold ah noS;clear hA hA2 h hk hv
 go_enter func65,ntmps65
 go_wp2_with fail
 generalize (w.alloc (.cells #[.int .i64 4,.bool false,.string num,.slice none 0 0,.slice none 0 0] 69)).alloc (.cells #[.int .i64 0,.bool false,.string ⟨#[]⟩,.slice none 0 0,.slice none 0 0] 69)=w1 at *;generalize hS:w.heap.size=S at *;have HS:=hid hS;refine hq.mono ?_;rintro e w2 ⟨rfl,hb⟩;have hszb:S≤w1.heap.size:=Nat.le_of_lt (lt_of_heap b3);replace b3:=(hb.block _ (lt_of_heap b3)).trans b3;replace b6:=(hb.block _ (lt_of_heap b6)).trans b6;replace hbel:=hbel.trans (hb.mono hszb);clear hb hq hszb
 go_wp2_with fail
 refine (hqk _).mono ?_;rintro e w3 ⟨rfl,hb⟩;have hszb:S≤w2.heap.size:=Nat.le_of_lt (lt_of_heap b3);replace b3:=(hb.block _ (lt_of_heap b3)).trans b3;replace b6:=(hb.block _ (lt_of_heap b6)).trans b6;replace hbel:=hbel.trans (hb.mono hszb);clear hb hqk hszb
 go_wp2_with fail
 refine (hqv _).mono ?_;rintro e w4 ⟨rfl,hb⟩;have hszb:S≤w3.heap.size:=Nat.le_of_lt (lt_of_heap b3);replace b3:=(hb.block _ (lt_of_heap b3)).trans b3;replace b6:=(hb.block _ (lt_of_heap b6)).trans b6;replace hbel:=hbel.trans (hb.mono hszb);have d0:=heap_cell b3 0;have d2:=heap_cell b3 2;have hA8:=alloc_far' w4 (.cells #[.int .i64 4,.bool false,.string num,.slice none 0 0,.slice none 0 0] 69);have hX:STX S w4.heap.size num (.slice none 0 0) (.slice none 0 0) w (w4.alloc (.cells #[.int .i64 4,.bool false,.string num,.slice none 0 0,.slice none 0 0] 69)):=⟨(hA8.block _ (lt_of_heap b3)).trans b3,(hA8.block _ (lt_of_heap b6)).trans b6,heap_alloc_new w4 _,lt_of_heap b6,hbel.trans (hA8.mono (Nat.le_of_lt (lt_of_heap b3)))⟩
 have HX0:=hid hX;clear hb hqv hszb b3 b6 hbel hA8 hX hS;generalize hRR:w4.heap.size=R at *;have HRR:=hid hRR;clear hRR
 go_wp2
 rw[HRR.out];generalize w4.alloc (.cells #[.int .i64 4,.bool false,.string num,.slice none 0 0,.slice none 0 0] 69)=w5 at *
 go_loopw [9,10] (fun p i wr=>(i=.int .i64 0∧p=.bool false∧STX S R num (.slice none 0 0) (.slice none 0 0) w wr)∨(i=.int .i64 1∧p=.bool true∧∃k v,STX S R num k v w wr∧SKV R num key val k v wr)) (fun _ i _=>1-(intOf i).toNat)
 case atStart=>exact .inl ⟨rfl,rfl,HX0.out⟩
 case round=>
  clear d0 d2 HX0;rcases hrel with ⟨rfl,rfl,hX⟩ | ⟨rfl,rfl,k,v,hX,hK⟩
  · have HX:=hid hX;have d2:=heap_cell hX.b3 2;have d3:=heap_cell hX.b3 3;clear hX;cases hne:val.toList==num.toList
    · go_upto_region 11 with fail
      refine add_region [[],[0],[],[2],[0,1,2,3],[],[5],[],[7],[0,1,2,3,4,5,6,7,8],[0,1,2,3,4,5,6],[0,1,2,3,4,5,6,7,8,9,10],[0,1,2,3,4,5,6,7,8,9,10,11],[0,1,2,3,4,5,6,7,8,9,10,11,12]] (fun W=>STX S R num (.slice none 0 0) (.slice none 0 0) w W) (fun _=>True) ?_
      iterate 3
       apply a_con
       · intro x;go_simp;done
       · intro x W R hW hF hR;have d3:=heap_cell hW.b8 3;have d4:=heap_cell hW.b8 4;clear hF;unfold addAt
         go_simp
         simp only[addUpon];exact hR _ (Below.refl _ _)
       simp only[Act.put,List.setIfInBounds_toArray,List.set_cons_zero,List.set_cons_succ]
      refine a_opq (fun u W=>∃B,u=.slice (some ⟨B,0,none⟩) 1 1∧W.heap[B]? =some (.cells #[.string key] 9 (0,0))) (fun _ _ _ h hb=>let ⟨B,h1,h2⟩:=h;⟨B,h1,(hb.block _ (lt_of_heap h2)).trans h2⟩) ?_ ?_ ?_
      · intro x;go_simp;done
      · intro x W R' hW hF hR;clear hF;unfold addAt
        go_simp
        simp only[addUpon];exact hR _ _ ⟨W.heap.size,rfl,heap_alloc_new W _⟩ (alloc_far' W _)
      simp only[Act.put,List.setIfInBounds_toArray,List.set_cons_zero,List.set_cons_succ,List.length_cons,List.length_nil,Nat.zero_add,Nat.reduceAdd];refine a_opq (fun u W=>SK R key u W) (fun _ _ _ h hb=>h.far hb) ?_ ?_ ?_
      · intro x;go_simp;done
      · intro x W R' hW hF hR;obtain ⟨B2,hx2,hB2⟩:=hF.1.2 rfl rfl rfl;have hlR:=lt_of_heap hW.b8;clear hF;simp only[hx2];refine addAt_append (.tmp 66) (.tmp 68) 22 rfl (R+1) 9 i0 _ 1 16 underlying22 hi hz0 hz1 hz2 rfl (by decide) (.slice none 0 0) 0 [] rfl (World.ownsRow_nil _ _ _ _) ⟨B2,0,none⟩ 1 1 [.string key] rfl rfl (World.news_of_block (cs:=#[.string key]) (t:=9) (fr:=(0,0)) hB2) (by simp[Value.oneCell']) (by decide) (by decide) (by omega) ?_;intro v' w' hrow hg;rw[List.nil_append] at hrow;refine hR _ _ ?_ ((Below.refl _ _).grown hg (Nat.le_refl _) (fun k h=>by cases h));obtain ⟨g,c,hv,hB,-,-⟩:=ownsRow_shape hrow (by decide);subst hv;exact ⟨g,c,rfl,hrow.cellAt 0 (by decide),(hrow.lt g rfl).2,by omega⟩
      simp only[Act.put,List.setIfInBounds_toArray,List.set_cons_zero,List.set_cons_succ,List.length_cons,List.length_nil,Nat.zero_add,Nat.reduceAdd]
      iterate 3
       apply a_con
       · intro x;go_simp;done
       · intro x W R hW hF hR;have d3:=heap_cell hW.b8 3;have d4:=heap_cell hW.b8 4;clear hF;unfold addAt
         go_simp
         simp only[addUpon];exact hR _ (Below.refl _ _)
       simp only[Act.put,List.setIfInBounds_toArray,List.set_cons_zero,List.set_cons_succ]
      refine a_opq (fun u W=>∃B,u=.slice (some ⟨B,0,none⟩) 1 1∧W.heap[B]? =some (.cells #[.string val] 9 (0,0))) (fun _ _ _ h hb=>let ⟨B,h1,h2⟩:=h;⟨B,h1,(hb.block _ (lt_of_heap h2)).trans h2⟩) ?_ ?_ ?_
      · intro x;go_simp;done
      · intro x W R' hW hF hR;clear hF;unfold addAt
        go_simp
        simp only[addUpon];exact hR _ _ ⟨W.heap.size,rfl,heap_alloc_new W _⟩ (alloc_far' W _)
      simp only[Act.put,List.setIfInBounds_toArray,List.set_cons_zero,List.set_cons_succ,List.length_cons,List.length_nil,Nat.zero_add,Nat.reduceAdd];refine a_opq (fun u W=>SK R val u W) (fun _ _ _ h hb=>h.far hb) ?_ ?_ ?_
      · intro x;go_simp;done
      · intro x W R' hW hF hR;obtain ⟨B2,hx2,hB2⟩:=hF.1.2 rfl rfl rfl;have hlR:=lt_of_heap hW.b8;clear hF;simp only[hx2];refine addAt_append (.tmp 71) (.tmp 73) 22 rfl (R+1) 9 i0 _ 1 16 underlying22 hi hz0 hz1 hz2 rfl (by decide) (.slice none 0 0) 0 [] rfl (World.ownsRow_nil _ _ _ _) ⟨B2,0,none⟩ 1 1 [.string val] rfl rfl (World.news_of_block (cs:=#[.string val]) (t:=9) (fr:=(0,0)) hB2) (by simp[Value.oneCell']) (by decide) (by decide) (by omega) ?_;intro v' w' hrow hg;rw[List.nil_append] at hrow;refine hR _ _ ?_ ((Below.refl _ _).grown hg (Nat.le_refl _) (fun k h=>by cases h));obtain ⟨g,c,hv,hB,-,-⟩:=ownsRow_shape hrow (by decide);subst hv;exact ⟨g,c,rfl,hrow.cellAt 0 (by decide),(hrow.lt g rfl).2,by omega⟩
      simp only[Act.put,List.setIfInBounds_toArray,List.set_cons_zero,List.set_cons_succ,List.length_cons,List.length_nil,Nat.zero_add,Nat.reduceAdd];apply a_con
      · intro x;go_simp;done
      · intro x W R hW hF hR;have d3:=heap_cell hW.b8 3;have d4:=heap_cell hW.b8 4;clear hF;unfold addAt
        go_simp
        simp only[addUpon];exact hR _ (Below.refl _ _)
      simp only[Act.put,List.setIfInBounds_toArray,List.set_cons_zero,List.set_cons_succ];refine a_wrt (fun x W=>STX S R num (x 4) (.slice none 0 0) w W∧SK R key (x 4) W∧SK R val (x 9) W) (fun _ _ _ h hb=>⟨h.1.far hb,h.2.1.far hb,h.2.2.far hb⟩) (fun x x' w h hT=>by have e:=h 4 (.inr (List.contains_iff_mem.1 rfl));have e9:=h 9 (.inr (List.contains_iff_mem.1 rfl));rw[e,e9] at hT;exact hT) ?_ ?_ ?_
      · intro x;go_simp;done
      · intro x W R' hW hF hD hR;have h9:=hF.2.1.2 rfl rfl rfl;have h4:=hF.2.2.2.2.2.2.1.2 rfl rfl rfl;simp only[AK.fact] at h9 h4;have hW4:=hW.set 3 (x 4) (x 4) (.slice none 0 0) rfl;have h94:=h9.set (Nat.le_refl R) 3 (x 4);have h44:=h4.set (Nat.le_refl R) 3 (x 4);obtain ⟨a4,n4,c4,hx4⟩:=h4.sl;have d3:=heap_cell hW.b8 3;have fr:=fun i=>heap_fz hW.b8 i
        clear hF;simp only[hx4];rw[hx4] at hW4 h94 h44;unfold addAt
        go_simp
        simp only[addUpon];refine hR _ _ ?_ trivial (by simp[World.setCell]);show STX S R num (updX x 11 undef 4) (.slice none 0 0) w _∧SK R key (updX x 11 undef 4) _∧SK R val (updX x 11 undef 9) _;rw[updX_ne (i:=11) (j:=4) _ _ (by decide),updX_ne (i:=11) (j:=9) _ _ (by decide),hx4];exact ⟨hW4,h44,h94⟩
      simp only[Act.put];apply a_late
      · intro x;go_simp;done
      · intro x W R' hW hF hR;clear hF hW;unfold addAt
        go_simp
        simp only[addUpon];exact hR _ (Below.refl _ _)
      simp only[Act.put,List.setIfInBounds_toArray,List.set_cons_zero,List.set_cons_succ];refine a_wrt2 (fun x W=>STX S R num (x 4) (x 9) w W∧SK R key (x 4) W∧SK R val (x 9) W) (fun _ _ _ h hb=>⟨h.1.far hb,h.2.1.far hb,h.2.2.far hb⟩) (fun x x' w h hT=>by have e:=h 4 (.inr (List.contains_iff_mem.1 rfl));have e9:=h 9 (.inr (List.contains_iff_mem.1 rfl));rw[e,e9] at hT;exact hT) ?_ ?_ ?_
      · intro x;go_simp;done
      · intro x W R' hW hF hD hR;have hT:=hF.2.1.2 rfl rfl rfl;simp only[AK.fact] at hT;obtain ⟨h8,h4,h9⟩:=hT;have hW4:=h8.set 4 (x 9) (x 4) (x 9) rfl;have h94:=h9.set (Nat.le_refl R) 4 (x 9);have h44:=h4.set (Nat.le_refl R) 4 (x 9);obtain ⟨a9,n9,c9,hx9⟩:=h9.sl;have d4:=heap_cell h8.b8 4;have fr:=fun i=>heap_fz h8.b8 i
        clear hF;simp only[hx9];rw[hx9] at hW4 h94 h44;unfold addAt
        go_simp
        simp only[addUpon];refine hR _ _ ?_ trivial (by simp[World.setCell]);show STX S R num (updX x 13 undef 4) (updX x 13 undef 9) w _∧SK R key (updX x 13 undef 4) _∧SK R val (updX x 13 undef 9) _;rw[updX_ne (i:=13) (j:=4) _ _ (by decide),updX_ne (i:=13) (j:=9) _ _ (by decide),hx9];exact ⟨hW4,h44,h94⟩
      simp only[Act.put];refine a_nil (by kernel_rfl) (by kernel_rfl) (by kernel_rfl) (fun _ _ h hb=>h.far hb) (fun _ _ _ _=>trivial) (fun _ _=>trivial) (HX.out.far (Below.refl _ _).drew) ?_;intro x W hE hW hF hD;clear hD;have hT:=hF.1.2 rfl;simp only[AK.fact] at hT;obtain ⟨h8,h4,h9⟩:=hT;have HT:=hid h8;have HK:Hid (SKV R num key val (x 4) (x 9) W):=hid (.inr ⟨hne,h4,h9⟩);have d3:=heap_cell h8.b3 3;clear hF hW h8 h4 h9;generalize x 4=k4 at *;generalize x 9=v9 at *
      go_wp2
      go_roundw
      case rel=>exact .inr ⟨by go_num,rfl,k4,v9,HT.out,HK.out⟩
      case measure=>simp[intOf]
    · go_wp2
      go_roundw
      case rel=>exact .inr ⟨by go_num,rfl,_,_,HX.out,.inl ⟨rfl,rfl⟩⟩
      case measure=>simp[intOf]
  · have d3:=heap_cell hX.b3 3;have e0:=heap_cell hX.b8 0;have e1:=heap_cell hX.b8 1;have e2:=heap_cell hX.b8 2;have e3:=heap_cell hX.b8 3;have e4:=heap_cell hX.b8 4;have f0:=heap_cell hX.b6 0;have fz0:=heap_fz hX.b6 0;have f1:=heap_cell hX.b6 1;have fz1:=heap_fz hX.b6 1;have f2:=heap_cell hX.b6 2;have fz2:=heap_fz hX.b6 2;have f3:=heap_cell hX.b6 3;have fz3:=heap_fz hX.b6 3;have f4:=heap_cell hX.b6 4;have fz4:=heap_fz hX.b6 4;obtain ⟨⟨ak,nk,ck,rfl⟩,⟨av,nv,cv,rfl⟩⟩:=hK.sl;have HX:=hid hX;have HK:=hid hK;clear hX hK;have h0:¬(1:Int)≤0:=by omega
    go_wp2
    have hx:=HX.out;have hk:=HK.out;have hl:=hx.lt;have hfin:=heap_set (heap_set (heap_set (heap_set (heap_set hx.b6 0 (.int .i64 4)) 1 (.bool false)) 2 (.string num)) 3 (.slice ak nk ck)) 4 (.slice av nv cv);refine ct rfl rfl rfl rfl ⟨_,_,_,rfl⟩ ⟨_,_,_,rfl⟩ hfin ⟨_,_,rfl,?_,?_⟩
    · rw[HS.out];have hq:S+1≤R:=by omega
      exact (((((hk.set hq 0 _).set hq 1 _).set hq 2 _).set hq 3 _).set hq 4 _).mono (by omega)
    · rw[HS.out];have hq:S≤S+1:=by omega
      exact ((((hx.bel.setCell (p:=⟨S+1,0,none⟩) hq _).setCell (p:=⟨S+1,1,none⟩) hq _).setCell (p:=⟨S+1,2,none⟩) hq _).setCell (p:=⟨S+1,3,none⟩) hq _).setCell (p:=⟨S+1,4,none⟩) hq _
end Go.Proofs.YthefknoicelhaaaGreatDoor.Se
